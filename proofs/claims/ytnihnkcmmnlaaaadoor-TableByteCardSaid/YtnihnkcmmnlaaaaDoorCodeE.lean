/- Walks: what scanning finds. -/
import Derived.Test.YtnihnkcmmnlaaaaDoorCodeD
import Derived.Test.YtnihnkcmmnlaaaaDoorCln
namespace Go.Proofs.YtnihnkcmmnlaaaaDoor
open Go.RowKit

theorem bs_data (s : ByteArray) : bs s.data.toList = s := Lib.mk_data s

def ffVal : Option (List UInt8) → Value
  | none => .tuple #[.string ⟨#[]⟩, .bool false]
  | some b => .tuple #[.string (bs b), .bool true]
/-- A quiet callee in a region behind earlier draws. -/
theorem quietMore {P : Program} {f : FuncId} {args : Array Value} {w : World} {a n : Nat} {v : Value} (h : ∀ k, Calls P f args (w.drewN k) fun e w' => e = .returned v ∧ ∃ m, w' = (w.drewN k).drewN m) :
    Calls P f args (w.drewN (a + n)) fun e w'' => e = .returned v ∧ ∃ m, w'' = w.drewN (a + m) :=
  (h (a + n)).mono fun _ _ ⟨he, m, hm⟩ => ⟨he, n + m, by rw [hm, World.drewN_drewN, Nat.add_assoc]⟩
theorem Halves.drewN {w : World} (h : Halves w) (n : Nat) : Halves (w.drewN n) := h.gr ((Gr.refl _).drewN n)

set_option maxRecDepth 100000 in
theorem firstFrame_any (s : ByteArray) (hs : s.size ≤ maxLen) (w : World) (hH : Halves w) :
    Calls Tryd.prog 48 #[.string s] w fun e w' => e = .returned (ffVal (first s.data.toList)) ∧ Gr w w' := by
  have hsz : s.data.toList.length = s.size := (Lib.size_eq s).symm
  by_cases h8 : s.size < 8
  · have HF := Lib.hid (show first s.data.toList = none from by unfold first; rw [if_pos (by omega)])
    clear hsz
    unfold maxLen at hs
    go_enter Tryd.func48, Tryd.ntmps48
    go_wp2
    go_ret2
    exact ⟨by rw [HF.out]; rfl, Gr.refl _⟩
  have h1 := fun k => readShort_any s hs (by omega) (w.drewN k)
  obtain ⟨n, hn⟩ : ∃ n, n = rdS s.data.toList := ⟨_, rfl⟩
  have hnl : n < 4294967296 := by rw [hn]; exact rdS_lt _
  rw [← hn] at h1
  have H1 := Lib.hid h1
  have hs2 : s.size ≤ 9223372036854775807 := by unfold maxLen at hs; omega
  have i8 : (8 : Int) ≤ (s.size : Int) := by omega
  have i4 : (4 : Int) ≤ (s.size : Int) := by omega
  by_cases hbig : 65536 < n
  · have HF := Lib.hid (show first s.data.toList = none from by unfold first; rw [if_neg (by omega), ← hn, if_pos (Or.inl hbig)])
    clear h1 hn hsz hs
    go_enter Tryd.func48, Tryd.ntmps48
    go_wp2_with fail
    go_quiet (with_reducible exact Calls.quiet_of (H1.out _))
    go_wp2
    go_ret2
    exact ⟨by rw [HF.out]; rfl, (Gr.refl _).drewN _⟩
  by_cases hfit : s.size < 8 + n
  · have HF := Lib.hid (show first s.data.toList = none from by unfold first; rw [if_neg (by omega), ← hn, if_pos (Or.inr (by omega))])
    clear h1 hn hsz hs
    go_enter Tryd.func48, Tryd.ntmps48
    go_wp2_with fail
    go_quiet (with_reducible exact Calls.quiet_of (H1.out _))
    go_wp2
    go_ret2
    exact ⟨by rw [HF.out]; rfl, (Gr.refl _).drewN _⟩
  obtain ⟨r, hr⟩ : ∃ r, r = s.extract 8 s.size := ⟨_, rfl⟩
  obtain ⟨b, hb⟩ : ∃ b, b = (s.extract 8 s.size).extract 0 n := ⟨_, rfl⟩
  have hrz : (s.extract 8 s.size).size = s.size - 8 := by rw [ByteArray.size_extract]; omega
  have hrd : (s.extract 8 s.size).data.toList = s.data.toList.drop 8 := by rw [Lib.extract_data, List.take_of_length_le (by first | (simp; done) | (simp; omega))]
  have hbd : b.data.toList = (s.data.toList.drop 8).take n := by rw [hb, Lib.extract_data, hrd, List.drop_zero, Nat.sub_zero]
  have hbz : b.size = n := by rw [hb, ByteArray.size_extract, hrz]; omega
  have h2 := fun k => readShort_any (s.extract 4 s.size) (by rw [ByteArray.size_extract]; unfold maxLen; omega) (by rw [ByteArray.size_extract]; omega) (w.drewN k)
  have hd4 : (s.extract 4 s.size).data.toList = s.data.toList.drop 4 := by rw [Lib.extract_data, List.take_of_length_le (by first | (simp; done) | (simp; omega))]
  rw [hd4] at h2
  have h3 := fun k => frameSum_any (s.extract 0 4) b (by rw [ByteArray.size_extract]; unfold maxLen; omega) (by rw [hbz]; unfold maxLen; omega) (w.drewN k) (hH.drewN k)
  have hd0 : (s.extract 0 4).data.toList = s.data.toList.take 4 := by rw [Lib.extract_data, List.drop_zero, Nat.sub_zero]
  rw [hd0, hbd] at h3
  have hx := rdS_lt (s.data.toList.drop 4)
  obtain ⟨x, hxe⟩ : ∃ x, x = rdS (s.data.toList.drop 4) := ⟨_, rfl⟩
  obtain ⟨y, hye⟩ : ∃ y, y = Crc.sum (s.data.toList.take 4 ++ (s.data.toList.drop 8).take n) := ⟨_, rfl⟩
  rw [← hxe] at h2
  rw [← hye] at h3
  rw [hb] at h3
  have h3' : ∀ k, Calls Tryd.prog 46 #[.string (s.extract 0 4), .string ((s.extract 8 s.size).extract 0 n)] (w.drewN k) fun e w' => e = .returned (.int .u32 (y : Nat)) ∧ ∃ m, w' = (w.drewN k).drewN m := fun k => (h3 k).mono fun e w' ⟨a, b⟩ => ⟨a, 0, by rw [← b]; rfl⟩
  have H2 := Lib.hid h2
  have H3 := Lib.hid h3'
  have hn8 : 8 + n ≤ s.size := by omega
  have hn6 : n ≤ 65536 := by omega
  by_cases heq : x = y
  · have HF := Lib.hid (show ffVal (first s.data.toList) = .tuple #[.string ((s.extract 8 s.size).extract 0 n), .bool true] from by
      have : first s.data.toList = some b.data.toList := by unfold first; rw [if_neg (by omega), ← hn, if_neg (by omega), ← hxe, ← hye, if_pos heq, hbd]
      rw [this]; unfold ffVal; simp only []; rw [bs_data, hb])
    have ht : ((x : Int) != (y : Int)) = false := by rw [heq]; simp
    clear h1 h2 h3 h3' hn hsz hs hd0 hd4 hbd hrd hxe hye hr hb heq hbz
    go_enter Tryd.func48, Tryd.ntmps48
    go_wp2_with fail
    go_quiet (with_reducible exact Calls.quiet_of (H1.out _))
    go_wp2
    go_quiet ((first | with_reducible exact quietMore H2.out | with_reducible exact quietMore H3.out))
    go_wp2
    go_ret2
    exact ⟨by rw [HF.out]; rfl, ((Gr.refl _).drewN _).drewN _⟩
  · have HF := Lib.hid (show first s.data.toList = none from by
      unfold first; rw [if_neg (by omega), ← hn, if_neg (by omega), ← hxe, ← hye, if_neg heq])
    have ht : ((x : Int) != (y : Int)) = true := by rw [bne_iff_ne]; omega
    clear h1 h2 h3 h3' hn hsz hs hd0 hd4 hbd hrd hxe hye hr hb heq hbz
    go_enter Tryd.func48, Tryd.ntmps48
    go_wp2_with fail
    go_quiet (with_reducible exact Calls.quiet_of (H1.out _))
    go_wp2
    go_quiet ((first | with_reducible exact quietMore H2.out | with_reducible exact quietMore H3.out))
    go_wp2
    go_ret2
    exact ⟨by rw [HF.out]; rfl, ((Gr.refl _).drewN _).drewN _⟩
end Go.Proofs.YtnihnkcmmnlaaaaDoor
