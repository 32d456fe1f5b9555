/- CodeByte: a byte changed behind the length, and the law's walk. -/
import Derived.Test.YthmnffiiondggaaDoorFrameMath
namespace Go.Proofs.YthmnffiiondggaaDoor
open Go.RowKit

theorem list4 {l : List UInt8} (h : l.length = 4) : ∃ a b c d, l = [a, b, c, d] := by
  match l, h with
  | [a, b, c, d], _ => exact ⟨a, b, c, d, rfl⟩
theorem rd4_inj {a b c d a' b' c' d' : UInt8} (h : rd4 a b c d = rd4 a' b' c' d') : a = a' ∧ b = b' ∧ c = c' ∧ d = d' := by
  have := a.toNat_lt; have := b.toNat_lt; have := c.toNat_lt; have := d.toNat_lt
  have := a'.toNat_lt; have := b'.toNat_lt; have := c'.toNat_lt; have := d'.toNat_lt
  unfold rd4 at h
  refine ⟨UInt8.toNat_inj.1 ?_, UInt8.toNat_inj.1 ?_, UInt8.toNat_inj.1 ?_, UInt8.toNat_inj.1 ?_⟩ <;> omega
theorem rdS_set {S r : List UInt8} (hS : S.length = 4) (q : Nat) (hq : q < 4) (x : UInt8) (h : rdS (S.set q x ++ r) = rdS (S ++ r)) : S[q] = x := by
  obtain ⟨a, b, c, d, rfl⟩ := list4 hS
  match q, hq with
  | 0, _ => exact (rd4_inj (a := x) (b := b) (c := c) (d := d) h).1.symm
  | 1, _ => exact (rd4_inj (a := a) (b := x) (c := c) (d := d) h).2.1.symm
  | 2, _ => exact (rd4_inj (a := a) (b := b) (c := x) (d := d) h).2.2.1.symm
  | 3, _ => exact (rd4_inj (a := a) (b := b) (c := c) (d := x) h).2.2.2.symm
theorem split_at (b : List UInt8) (q : Nat) (hq : q < b.length) (x : UInt8) : b = b.take q ++ b[q] :: b.drop (q + 1) ∧ b.set q x = b.take q ++ x :: b.drop (q + 1) := by
  constructor
  · conv => lhs; rw [← List.take_append_drop q b, List.drop_eq_getElem_cons hq]
  · exact List.set_eq_take_append_cons_drop .. |>.trans (by rw [if_pos hq])
/-- A frame of which one byte behind the length was changed begins with no frame. -/
theorem first_set (b : List UInt8) (hb : b.length ≤ 65536) (r : Nat) (hr : r < 4 + b.length) (x : UInt8) (hx : (sumF b ++ b)[r]'(by rw [List.length_append]; exact hr) ≠ x) :
    first (be4 b.length ++ (sumF b ++ b).set r x) = none := by
  have hS : (sumF b).length = 4 := rfl
  have hl : (be4 b.length ++ (sumF b ++ b).set r x).length = 8 + b.length := by
    rw [List.length_append, List.length_set, List.length_append, be4_len, hS]; omega
  unfold first
  rw [be4_bytes _ (by omega), if_neg (by omega), if_neg (by omega), drop4_be4, take4_be4]
  have hd8 : (be4 b.length ++ (sumF b ++ b).set r x).drop 8 = ((sumF b ++ b).set r x).drop 4 := rfl
  rw [hd8]
  by_cases h4 : r < 4
  · have e : (sumF b ++ b).set r x = (sumF b).set r x ++ b := by rw [List.set_append, if_pos (by rw [hS]; exact h4)]
    have hlen : ((sumF b).set r x).length = 4 := by rw [List.length_set]; exact hS
    rw [e, if_neg]
    intro h
    rw [List.drop_left' hlen, List.take_of_length_le (Nat.le_refl _)] at h
    have h2 : rdS (sumF b ++ b) = Crc.sum (be4 b.length ++ b) := be4_bytes _ (Crc.sum_lt _) _
    rw [← h2] at h
    have := rdS_set hS r h4 x h
    rw [List.getElem_append_left (by rw [hS]; exact h4)] at hx
    exact hx this
  · have e : (sumF b ++ b).set r x = sumF b ++ b.set (r - 4) x := by rw [List.set_append, if_neg (by rw [hS]; omega), hS]
    have hq : r - 4 < b.length := by omega
    rw [e, if_neg]
    intro h
    rw [List.drop_left' hS, List.take_of_length_le (by rw [List.length_set]; omega)] at h
    have h2 : rdS (sumF b ++ b.set (r - 4) x) = Crc.sum (be4 b.length ++ b) := be4_bytes _ (Crc.sum_lt _) _
    rw [h2] at h
    obtain ⟨s1, s2⟩ := split_at b (r - 4) hq x
    rw [s2] at h
    have h3 : Crc.sum (be4 b.length ++ (b.take (r - 4) ++ b[r - 4] :: b.drop (r - 4 + 1))) = Crc.sum (be4 b.length ++ (b.take (r - 4) ++ x :: b.drop (r - 4 + 1))) := by
      rw [← s1]; exact h
    rw [← List.append_assoc, ← List.append_assoc] at h3
    have := Crc.sum_byte _ _ _ _ h3
    rw [List.getElem_append_right (by rw [hS]; omega)] at hx
    exact hx this

theorem run_conv1 (w : World) (a : Int) :
    (convert 66 9 (.slice (some ⟨w.heap.size, 0, none⟩) 1 1)).run Tryd.prog (w.alloc (.cells #[.int .u8 a] 5)) =
      .ok (.string (strOfNums [a])) (w.alloc (.cells #[.int .u8 a] 5)) := by
  refine run_convert_bytes_arg _ 66 5 Tryd.underlying66 Tryd.underlying5 _ _ _ _ [a] rfl ?_ _ Tryd.underlying9
  intro i hi
  rw [Nat.zero_add, World.cell?_alloc_mark]
  match i, hi with
  | 0, _ => rfl

theorem run_conv1d (w : World) (a : Int) :
    (convert 66 9 (.slice (some ⟨w.heap.size, 0, none⟩) 1 1)).run Tryd.prog (w.alloc (.cells #[.int .u8 a] 5)).drew =
      .ok (.string (strOfNums [a])) (w.alloc (.cells #[.int .u8 a] 5)).drew := by
  refine run_convert_bytes_arg _ 66 5 Tryd.underlying66 Tryd.underlying5 _ _ _ _ [a] rfl ?_ _ Tryd.underlying9
  intro i hi
  show (w.alloc (.cells #[.int .u8 a] 5)).cell? _ = _
  rw [Nat.zero_add, World.cell?_alloc_mark]
  match i, hi with
  | 0, _ => rfl

set_option maxRecDepth 100000 in
theorem byte_law_no (s : ByteArray) (hs : 65536 < s.size) (at_ : Nat) (to : Nat) (w : World) (hH : Halves w) :
    Calls Tryd.prog 10 #[.string s, .int .u64 (at_ : Int), .int .u8 (to : Int)] w fun e w' => e = .returned (.bool true) ∧ Gr w w' := by
  have H1 := Lib.hid (awake_any w hH)
  have H2 := Lib.hid (fun w1 => frame_no s hs w1)
  clear hH hs
  go_enter Tryd.func10, Tryd.ntmps10
  go_wp2_with fail
  refine H1.out.mono ?_
  rintro e w1 ⟨rfl, g1⟩
  go_wp2_with fail
  refine (H2.out _).mono ?_
  rintro e w2 ⟨rfl, rfl⟩
  go_wp2_with fail
  go_ret
  exact ⟨rfl, g1⟩

set_option maxRecDepth 100000 in
set_option maxHeartbeats 1000000 in
theorem byte_law_yes (s : ByteArray) (hs : s.size ≤ 65536) (at_ : Nat) (to : Nat) (hto : to < 256) (w : World) (hH : Halves w) :
    Calls Tryd.prog 10 #[.string s, .int .u64 (at_ : Int), .int .u8 (to : Int)] w fun e w' => e = .returned (.bool true) ∧ Gr w w' := by
  have H1 := Lib.hid (awake_any w hH)
  have hfs := frameB_size s
  obtain ⟨F, hF⟩ : ∃ F, F = frameB s := ⟨_, rfl⟩
  have H2 := Lib.hid (fun w1 (g : Gr w w1) => frame_yes s hs w1 (hH.gr g))
  rw [← hF] at H2 hfs
  have HF := Lib.hid hF
  have HH := Lib.hid hH
  clear hH hF
  obtain ⟨q, hq⟩ : ∃ q, q = at_ % (4 + s.size) := ⟨_, rfl⟩
  have hql : q < 4 + s.size := by rw [hq]; exact Nat.mod_lt _ (by omega)
  have hw1 : wrap64 ((at_ : Int) % (8 + (s.size : Int) - 4)) = (q : Int) := by
    rw [show (8 + (s.size : Int) - 4) = ((4 + s.size : Nat) : Int) from by omega, show (at_ : Int) % ((4 + s.size : Nat) : Int) = (q : Int) from by rw [hq]; rfl]
    exact IntWalk.wrap64_in _ ⟨by omega, by omega⟩
  have HQ := Lib.hid hql
  clear hq
  go_enter Tryd.func10, Tryd.ntmps10
  go_wp2_with fail
  refine H1.out.mono ?_
  rintro e w1 ⟨rfl, g1⟩
  go_wp2_with fail
  refine (H2.out _ g1).mono ?_
  rintro e w2 ⟨rfl, g2⟩
  have hqi : 4 + q < 8 + s.size := by omega
  go_wp2_with fail
  · go_ret
    exact ⟨rfl, Gr.trans g1 g2⟩
  · have hne : ((F[4 + q].toNat : Int) == (to : Int)) = false := by assumption
    have HNE := Lib.hid hne
    clear hne
    have hcv := fun (w : World) => run_conv1 w (to : Int)
    have hcd := fun (w : World) => run_conv1d w (to : Int)
    have hw5 : IntKind.i64.wrap (4 + (q : Int) + 1) = 4 + (q : Int) + 1 := IntWalk.i64_in _ (by omega)
    have ht5 : (4 + (q : Int) + 1).toNat = 4 + q + 1 := by omega
    have ht4 : (4 + (q : Int)).toNat = 4 + q := by omega
    have hp5 : 0 ≤ 4 + (q : Int) + 1 := by omega
    have hp4 : 0 ≤ 4 + (q : Int) := by omega
    have hq4 : 4 + (q : Int) ≤ 8 + (s.size : Int) := by omega
    have hq5 : 4 + (q : Int) + 1 ≤ 8 + (s.size : Int) := by omega
    have hz1 : (F.extract 0 (4 + q)).size = 4 + q := by rw [ByteArray.size_extract]; omega
    have hz2 : (strOfNums [(to : Int)]).size = 1 := by rw [strOfNums_size]; rfl
    have hz3 : (F.extract (4 + q + 1) F.size).size = 3 + s.size - q := by rw [ByteArray.size_extract]; omega
    have hz12 : (F.extract 0 (4 + q) ++ strOfNums [(to : Int)]).size = 5 + q := by rw [append_size, hz1, hz2]; omega
    have hX : scanAll (F.extract 0 (4 + q) ++ strOfNums [(to : Int)] ++ F.extract (4 + q + 1) (8 + s.size)).data.toList = [] := by
      apply scanAll_none
      have hd : F.data.toList = be4 s.data.toList.length ++ (sumF s.data.toList ++ s.data.toList) := by rw [HF.out, frameB_data]; rfl
      have hsl : s.data.toList.length = s.size := (Lib.size_eq s).symm
      have hFl : F.data.toList.length = 8 + s.size := by rw [← Lib.size_eq, hfs]
      have hne := HNE.out
      rw [beq_eq_false_iff_ne] at hne
      have e : (F.extract 0 (4 + q) ++ strOfNums [(to : Int)] ++ F.extract (4 + q + 1) (8 + s.size)).data.toList = be4 s.data.toList.length ++ (sumF s.data.toList ++ s.data.toList).set q (UInt8.ofNat to) := by
        have h1 := (split_at F.data.toList (4 + q) (by omega) (UInt8.ofNat to)).2
        rw [append_data, append_data, Lib.extract_data, Lib.extract_data, strOfNums_data, List.drop_zero, Nat.sub_zero, List.take_of_length_le (l := F.data.toList.drop (4 + q + 1)) (by rw [List.length_drop]; omega)]
        rw [List.append_assoc]
        refine Eq.trans ?_ (h1.symm.trans ?_)
        · rfl
        · rw [hd, List.set_append, if_neg (by rw [be4_len]; omega), be4_len, Nat.add_sub_cancel_left]
      rw [e]
      refine first_set _ (by omega) q (by omega) _ ?_
      intro h
      apply hne
      have hg : F[4 + q] = (sumF s.data.toList ++ s.data.toList)[q]'(by rw [List.length_append]; show q < 4 + _; omega) := by
        have h2 : F.data.toList[4 + q]'(by omega) = (be4 s.data.toList.length ++ (sumF s.data.toList ++ s.data.toList))[4 + q]'(by rw [← hd]; omega) := by congr 1
        rw [List.getElem_append_right (by rw [be4_len]; omega)] at h2
        simp only [be4_len, Nat.add_sub_cancel_left] at h2
        rw [← h2]
        rfl
      rw [hg, h]
      simp
      omega
    have hXs : (F.extract 0 (4 + q) ++ strOfNums [(to : Int)] ++ F.extract (4 + q + 1) (8 + s.size)).size ≤ 281474976710656 := by
      rw [append_size, hz12, ByteArray.size_extract]; omega
    have hS := fun (w3 : World) (hh : Halves w3) => scan_any _ hXs (by rw [hX]; decide) w3 hh
    rw [hX] at hS
    have HS := Lib.hid hS
    clear hS hX hXs
    have hg2 : Gr w (w2.alloc (.cells #[.int .u8 (to : Int)] 5)).drew := ((Gr.trans g1 g2).alloc _).drew
    go_region_with ((go_at_call 30; refine (HS.out _ (HH.out.gr ?_)).mono ?_; exact hg2; rintro e w3 ⟨v3, rfl, s3, g3⟩; obtain ⟨A, c, rfl, hh1, hh2, hh3⟩ := SV.of_own s3))
    go_wp2
    go_ret
    exact ⟨rfl, hg2.trans g3⟩
theorem byte_law (s : ByteArray) (_hs : s.size ≤ maxLen) (at_ : Nat) (_hat : at_ < 18446744073709551616) (to : Nat) (hto : to < 256) (w : World) (hH : Halves w) :
    Calls Tryd.prog 10 #[.string s, .int .u64 (at_ : Int), .int .u8 (to : Int)] w fun e w' => e = .returned (.bool true) ∧ Gr w w' := by
  by_cases h : s.size ≤ 65536
  · exact byte_law_yes s h at_ to hto w hH
  · exact byte_law_no s (by omega) at_ to w hH
end Go.Proofs.YthmnffiiondggaaDoor
