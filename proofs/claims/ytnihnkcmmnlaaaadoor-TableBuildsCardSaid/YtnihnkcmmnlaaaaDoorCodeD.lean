/- Walks: the document's sum, bit by bit; frames. -/
import Derived.Test.YtnihnkcmmnlaaaaDoorCodeC
import Derived.Test.YtnihnkcmmnlaaaaDoorBase
namespace Go.Proofs.YtnihnkcmmnlaaaaDoor
open Go.RowKit

theorem Halves.gr {w w' : World} (h : Halves w) (g : Gr w w') : Halves w' := fun k hk => g.cell (h k hk)
theorem bitSteps_snoc (j d : Nat) : Crc.bitSteps (j + 1) d = Crc.bitStep (Crc.bitSteps j d) := Crc.bitSteps_add j 1 d
theorem bitSteps_lt (j : Nat) : ∀ {d : Nat}, d < 4294967296 → Crc.bitSteps j d < 4294967296 := by
  induction j with
  | zero => intro d h; exact h
  | succ j ih => intro d h; exact ih (Crc.bitStep_lt h)
theorem and1_u32 (c : Nat) (hc : c < 4294967296) : bits .and .u32 (c : Int) 1 = ((c % 2 : Nat) : Int) := by
  have := and_u32 c 1 hc (by decide)
  rw [show c &&& 1 = c % 2 from Nat.and_one_is_mod c] at this
  exact this

set_option maxHeartbeats 400000 in
theorem rsum_any (s : ByteArray) (hs : s.size ≤ maxLen) (w : World) :
    Calls Tryd.prog 38 #[.string s] w fun e w' => e = .returned (.int .u32 (Crc.sum s.data.toList : Nat)) ∧ w = w' := by
  unfold maxLen at hs
  go_enter Tryd.func38, Tryd.ntmps38
  go_wp2_with fail
  go_loop [3, 4] (fun c i => ∃ k : Nat, k ≤ s.size ∧ i = .int .i64 k ∧ c = .int .u32 (Crc.sumOn Crc.start (s.data.toList.take k) : Nat)) (fun _ i => s.size - (intOf i).toNat)
  case atStart => exact ⟨0, Nat.zero_le _, rfl, rfl⟩
  case round =>
    obtain ⟨k, hk, rfl, rfl⟩ := hrel
    obtain ⟨c, hc⟩ : ∃ c, c = Crc.sumOn Crc.start (s.data.toList.take k) := ⟨_, rfl⟩
    have hcl : c < 4294967296 := by rw [hc]; exact Crc.sumOn_lt _ Crc.start_lt
    by_cases hlt : k < s.size
    · have hts := take_snoc s.data.toList k (by simpa using hlt)
      have hbn : s[k].toNat < 256 := s[k].toNat_lt
      obtain ⟨d, hd⟩ : ∃ d, d = c ^^^ s[k].toNat := ⟨_, rfl⟩
      have hdl : d < 4294967296 := by rw [hd]; exact Crc.xor_lt hcl (by omega)
      have hx : bits .xor .u32 (c : Int) ((s[k].toNat : Int) % 4294967296) = (d : Int) := by
        rw [show ((s[k].toNat : Int) % 4294967296) = (s[k].toNat : Int) from by omega, hd]
        exact xor_u32 c _ hcl (by omega)
      have hs1 : Crc.sumOn Crc.start (s.data.toList.take (k + 1)) = Crc.bitSteps 8 d := by
        rw [hts, Crc.sumOn_snoc, ← hc, hd, ← Crc.turned_bits]; rfl
      have HC := Lib.hid hs1
      rw [← hc]
      clear hs1 hts hc hd hbn hcl
      go_wp2_with fail
      go_loop [3, 5] (fun c i => ∃ j : Nat, j ≤ 8 ∧ i = .int .i64 j ∧ c = .int .u32 (Crc.bitSteps j d : Nat)) (fun _ i => 8 - (intOf i).toNat)
      case atStart => exact ⟨0, Nat.zero_le _, rfl, rfl⟩
      case round =>
        obtain ⟨j, hj, rfl, rfl⟩ := hrel
        by_cases h8 : j < 8
        · obtain ⟨m, hm⟩ : ∃ m, m = Crc.bitSteps j d := ⟨_, rfl⟩
          have hml : m < 4294967296 := by rw [hm]; exact bitSteps_lt j hdl
          have hstep := bitSteps_snoc j d
          rw [← hm] at hstep
          rw [← hm]
          have ha := and1_u32 m hml
          rcases Nat.mod_two_eq_zero_or_one m with h2 | h2
          · rw [h2] at ha
            have HS := Lib.hid (show Crc.bitSteps (j + 1) d = m / 2 from by rw [hstep]; unfold Crc.bitStep; rw [if_neg (by omega)])
            clear hstep hm h2
            go_wp2
            go_round
            case rel => exact ⟨j + 1, by omega, by go_num, by rw [HS.out]; rfl⟩
            case measure => simp [intOf]; omega
          · rw [h2] at ha
            obtain ⟨r, hr⟩ : ∃ r, r = m / 2 ^^^ Crc.poly := ⟨_, rfl⟩
            have hxr : bits .xor .u32 ((m : Int) / 2) 3988292384 = (r : Int) := by
              rw [hr]; exact xor_u32 (m / 2) 3988292384 (by omega) (by decide)
            have HS := Lib.hid (show Crc.bitSteps (j + 1) d = r from by rw [hstep, hr]; unfold Crc.bitStep; rw [if_pos h2])
            clear hstep hm h2 hr
            go_wp2
            go_round
            case rel => exact ⟨j + 1, by omega, by go_num, by rw [HS.out]⟩
            case measure => simp [intOf]; omega
        · obtain rfl : j = 8 := by omega
          go_wp2
          go_round
          case rel => exact ⟨k + 1, by omega, by go_num, by rw [HC.out]⟩
          case measure => simp [intOf]; omega
    · have hlast : s.data.toList.take k = s.data.toList := List.take_of_length_le (by simp; omega)
      have hn := not_u32 c hcl
      have HL := Lib.hid (show Crc.sum s.data.toList = Crc.fin c from by rw [hc, hlast]; rfl)
      rw [← hc]
      clear hc hlast
      go_wp2
      go_ret
      exact ⟨by rw [HL.out]; rfl, rfl⟩

theorem frameSum_any (a s : ByteArray) (ha : a.size ≤ maxLen) (hs : s.size ≤ maxLen) (w : World) (hH : Halves w) :
    Calls Tryd.prog 46 #[.string a, .string s] w fun e w' => e = .returned (.int .u32 (Crc.sum (a.data.toList ++ s.data.toList) : Nat)) ∧ w = w' := by
  have h1 := sumOn_any Crc.start Crc.start_lt a ha w hH
  have l1 := Crc.sumOn_lt a.data.toList Crc.start_lt
  obtain ⟨m, hm⟩ : ∃ m, m = Crc.sumOn Crc.start a.data.toList := ⟨_, rfl⟩
  rw [← hm] at h1 l1
  have h2 := sumOn_any m l1 s hs w hH
  have l2 := Crc.sumOn_lt s.data.toList l1
  obtain ⟨r, hr⟩ : ∃ r, r = Crc.sumOn m s.data.toList := ⟨_, rfl⟩
  rw [← hr] at h2 l2
  have hn := not_u32 r l2
  have HL := Lib.hid (show Crc.sum (a.data.toList ++ s.data.toList) = Crc.fin r from by rw [hr, hm, ← Crc.sumOn_append]; rfl)
  have H1 := Lib.hid h1
  have H2 := Lib.hid h2
  clear h1 h2 hm hr hH
  go_enter Tryd.func46, Tryd.ntmps46
  go_wp2_with fail
  refine H1.out.mono ?_
  rintro e w1 ⟨rfl, rfl⟩
  go_wp2_with fail
  refine H2.out.mono ?_
  rintro e w1 ⟨rfl, rfl⟩
  go_wp2
  go_ret
  exact ⟨by rw [HL.out]; rfl, rfl⟩

/-- A frame as the document has it. -/
def frameB (s : ByteArray) : ByteArray := bs (be4 s.size) ++ bs (be4 (Crc.sum (be4 s.size ++ s.data.toList))) ++ s
theorem append_size (a b : ByteArray) : (a ++ b).size = a.size + b.size := ByteArray.size_append
theorem append_data (a b : ByteArray) : (a ++ b).data.toList = a.data.toList ++ b.data.toList := by
  rw [ByteArray.data_append, Array.toList_append]
theorem frame_yes (s : ByteArray) (hs : s.size ≤ 65536) (w : World) (hH : Halves w) :
    Calls Tryd.prog 35 #[.string s] w fun e w' => e = .returned (.tuple #[.string (frameB s), .int .i64 0]) ∧ Gr w w' := by
  obtain ⟨a, ha⟩ : ∃ a, a = bs (be4 s.size) := ⟨_, rfl⟩
  obtain ⟨n, hn⟩ : ∃ n, n = Crc.sum (be4 s.size ++ s.data.toList) := ⟨_, rfl⟩
  have hnl : n < 4294967296 := by rw [hn]; exact Crc.sum_lt _
  obtain ⟨b, hb⟩ : ∃ b, b = bs (be4 n) := ⟨_, rfl⟩
  have za : a.size = 4 := by rw [ha]; exact be4_size _
  have zb : b.size = 4 := by rw [hb]; exact be4_size _
  have zab : (a ++ b).size = 8 := by rw [append_size, za, zb]
  have h1 := short_at (s.size : Int) s.size rfl (by omega) w
  have h2 : ∀ w1, Gr w w1 → Calls Tryd.prog 46 #[.string a, .string s] w1 fun e w' => e = .returned (.int .u32 (n : Nat)) ∧ w1 = w' := fun w1 g => by
    have := frameSum_any a s (by rw [za]; decide) (by unfold maxLen; omega) w1 (hH.gr g)
    rw [hn]
    rw [ha] at this ⊢
    exact this
  have h3 := fun w => short_at (n : Int) n rfl hnl w
  rw [← ha] at h1
  rw [← hb] at h3
  have HF := Lib.hid (show frameB s = a ++ b ++ s from by unfold frameB; rw [ha, hb, hn])
  have H1 := Lib.hid h1
  have H2 := Lib.hid h2
  have H3 := Lib.hid h3
  clear h1 h2 h3 ha hb hn hH
  go_enter Tryd.func35, Tryd.ntmps35
  go_wp2_with fail
  refine H1.out.mono ?_
  rintro e w1 ⟨rfl, g1⟩
  go_wp2_with fail
  refine (H2.out _ g1).mono ?_
  rintro e w2 ⟨rfl, rfl⟩
  go_wp2_with fail
  refine (H3.out _).mono ?_
  rintro e w2 ⟨rfl, g2⟩
  go_wp2
  go_ret2
  exact ⟨by rw [HF.out]; rfl, Gr.trans g1 g2⟩
theorem frame_no (s : ByteArray) (hs : 65536 < s.size) (w : World) :
    Calls Tryd.prog 35 #[.string s] w fun e w' => e = .returned (.tuple #[.string ⟨#[]⟩, .int .i64 2]) ∧ w = w' := by
  go_enter Tryd.func35, Tryd.ntmps35
  go_wp2
  go_ret2
  exact ⟨rfl, rfl⟩
theorem rframe_yes (s : ByteArray) (hs : s.size ≤ 65536) (w : World) :
    Calls Tryd.prog 27 #[.string s] w fun e w' => e = .returned (.tuple #[.string (frameB s), .int .i64 0]) ∧ Gr w w' := by
  obtain ⟨a, ha⟩ : ∃ a, a = bs (be4 s.size) := ⟨_, rfl⟩
  obtain ⟨n, hn⟩ : ∃ n, n = Crc.sum (be4 s.size ++ s.data.toList) := ⟨_, rfl⟩
  have hnl : n < 4294967296 := by rw [hn]; exact Crc.sum_lt _
  obtain ⟨b, hb⟩ : ∃ b, b = bs (be4 n) := ⟨_, rfl⟩
  have za : a.size = 4 := by rw [ha]; exact be4_size _
  have zb : b.size = 4 := by rw [hb]; exact be4_size _
  have zab : (a ++ b).size = 8 := by rw [append_size, za, zb]
  have h1 := rshort_at (s.size : Int) s.size rfl (by omega) w
  have h2 : ∀ w1, Calls Tryd.prog 38 #[.string (a ++ s)] w1 fun e w' => e = .returned (.int .u32 (n : Nat)) ∧ w1 = w' := fun w1 => by
    have := rsum_any (a ++ s) (by rw [append_size, za]; unfold maxLen; omega) w1
    rw [append_data] at this
    rw [hn]
    rw [ha] at this ⊢
    exact this
  have h3 := fun w => rshort_at (n : Int) n rfl hnl w
  rw [← ha] at h1
  rw [← hb] at h3
  have HF := Lib.hid (show frameB s = a ++ b ++ s from by unfold frameB; rw [ha, hb, hn])
  have H1 := Lib.hid h1
  have H2 := Lib.hid h2
  have H3 := Lib.hid h3
  clear h1 h2 h3 ha hb hn
  go_enter Tryd.func27, Tryd.ntmps27
  go_wp2_with fail
  refine H1.out.mono ?_
  rintro e w1 ⟨rfl, g1⟩
  go_wp2_with fail
  refine (H2.out _).mono ?_
  rintro e w2 ⟨rfl, rfl⟩
  go_wp2_with fail
  refine (H3.out _).mono ?_
  rintro e w2 ⟨rfl, g2⟩
  go_wp2
  go_ret2
  exact ⟨by rw [HF.out]; rfl, Gr.trans g1 g2⟩
theorem rframe_no (s : ByteArray) (hs : 65536 < s.size) (w : World) :
    Calls Tryd.prog 27 #[.string s] w fun e w' => e = .returned (.tuple #[.string ⟨#[]⟩, .int .i64 2]) ∧ w = w' := by
  go_enter Tryd.func27, Tryd.ntmps27
  go_wp2
  go_ret2
  exact ⟨rfl, rfl⟩
end Go.Proofs.YtnihnkcmmnlaaaaDoor
