/- Plain mathematics of frames one behind the other, torn frames. -/
import Derived.Test.YteagmdnpajalgaaCodeD
namespace Go.Proofs.Yteagmdnpajalgaa

theorem be4_bytes (n : Nat) (hn : n < 4294967296) (rest : List UInt8) : rdS (be4 n ++ rest) = n := by
  simp only [be4, rdS, rd4, List.cons_append, UInt8.toNat_ofNat']
  omega
theorem be4_len (n : Nat) : (be4 n).length = 4 := rfl
def sumF (b : List UInt8) : List UInt8 := be4 (Crc.sum (be4 b.length ++ b))
def frameL (b : List UInt8) : List UInt8 := be4 b.length ++ (sumF b ++ b)
theorem frameL_len (b : List UInt8) : (frameL b).length = 8 + b.length := by
  unfold frameL sumF; rw [List.length_append, List.length_append, be4_len, be4_len]; omega
theorem frameB_data (s : ByteArray) : (frameB s).data.toList = frameL s.data.toList := by
  unfold frameB frameL sumF
  rw [append_data, append_data, ← Lib.size_eq, List.append_assoc]
  rfl
theorem drop4_be4 (n : Nat) (r : List UInt8) : (be4 n ++ r).drop 4 = r := rfl
theorem take4_be4 (n : Nat) (r : List UInt8) : (be4 n ++ r).take 4 = be4 n := rfl
theorem first_frame (b rest : List UInt8) (hb : b.length ≤ 65536) : first (frameL b ++ rest) = some b := by
  have hl := frameL_len b
  have h0 : rdS (frameL b ++ rest) = b.length := by
    unfold frameL; rw [List.append_assoc]; exact be4_bytes _ (by omega) _
  have h4 : (frameL b ++ rest).drop 4 = sumF b ++ (b ++ rest) := by
    unfold frameL; rw [List.append_assoc, drop4_be4, List.append_assoc]
  have h8 : (frameL b ++ rest).drop 8 = b ++ rest := by
    rw [show 8 = 4 + 4 from rfl, ← List.drop_drop, h4]; rfl
  have t4 : (frameL b ++ rest).take 4 = be4 b.length := by
    unfold frameL; rw [List.append_assoc, take4_be4]
  have tb : (b ++ rest).take b.length = b := List.take_left
  unfold first
  rw [h0, h4, h8, t4, tb, if_neg (by rw [List.length_append]; omega), if_neg (by rw [List.length_append]; omega)]
  exact if_pos (be4_bytes _ (Crc.sum_lt _) _)
theorem first_torn (b rest : List UInt8) (j : Nat) (hb : b.length ≤ 65536) (hj : j < 8 + b.length) : first ((frameL b ++ rest).take j) = none := by
  have hl := frameL_len b
  unfold first
  by_cases h8 : j < 8
  · rw [if_pos (by rw [List.length_take]; omega)]
  · have h0 : rdS ((frameL b ++ rest).take j) = b.length := by
      have : (frameL b ++ rest).take j = be4 b.length ++ ((sumF b ++ b ++ rest).take (j - 4)) := by
        unfold frameL
        rw [List.append_assoc, List.append_assoc, List.take_append, be4_len, List.take_of_length_le (by rw [be4_len]; omega)]
      rw [this]; exact be4_bytes _ (by omega) _
    rw [h0, if_neg (by rw [List.length_take, List.length_append]; omega), if_pos (Or.inr (by rw [List.length_take]; omega))]

def joinL : List (List UInt8) → List UInt8
  | [] => []
  | b :: r => frameL b ++ joinL r
theorem joinL_len (H : List (List UInt8)) : (joinL H).length = bytesOf H := by
  induction H with
  | nil => rfl
  | cons b r ih => simp only [joinL, bytesOf, List.length_append, frameL_len, ih]
theorem joinL_snoc (H : List (List UInt8)) (b : List UInt8) : joinL (H ++ [b]) = joinL H ++ frameL b := by
  induction H with
  | nil => simp [joinL]
  | cons x r ih => simp only [List.cons_append, joinL, ih, List.append_assoc]
theorem scan_join (rest : List UInt8) : ∀ H : List (List UInt8), (∀ b ∈ H, b.length ≤ 65536) → scanAll (joinL H ++ rest) = H ++ scanAll rest
  | [], _ => rfl
  | b :: H, h => by
    have hb := h b (by simp)
    show scanAll (frameL b ++ joinL H ++ rest) = b :: (H ++ scanAll rest)
    rw [List.append_assoc, scanAll_some (first_frame b _ hb), ← frameL_len b, List.drop_left, scan_join rest H (fun x hx => h x (by simp [hx]))]
theorem scan_torn : ∀ (H : List (List UInt8)) (i k : Nat), (∀ b ∈ H, b.length ≤ 65536) → i ≤ H.length → bytesOf (H.take i) ≤ k → (i < H.length → k < bytesOf (H.take (i + 1))) → k ≤ bytesOf H → scanAll ((joinL H).take k) = H.take i
  | [], i, k, _, _, _, _, hk => by
    simp only [bytesOf] at hk
    have : k = 0 := by omega
    subst this
    simp [scanAll_none (l := []) rfl]
  | b :: H, 0, k, h, _, _, hn, _ => by
    have hb := h b (by simp)
    have := hn (by simp)
    simp only [Nat.zero_add, List.take_succ_cons, List.take_zero, bytesOf] at this
    show scanAll ((frameL b ++ joinL H).take k) = []
    exact scanAll_none (first_torn b _ k hb (by omega))
  | b :: H, i + 1, k, h, hi, hle, hn, hk => by
    have hb := h b (by simp)
    simp only [List.take_succ_cons, bytesOf] at hle
    have e : (joinL (b :: H)).take k = frameL b ++ (joinL H).take (k - (8 + b.length)) := by
      show (frameL b ++ joinL H).take k = _
      rw [List.take_append, frameL_len, List.take_of_length_le (by rw [frameL_len]; omega)]
    rw [e, scanAll_some (first_frame b _ hb), ← frameL_len b, List.drop_left, List.take_succ_cons]
    have ih := scan_torn H i (k - (frameL b).length) (fun x hx => h x (by simp [hx])) (by simpa using hi) (by rw [frameL_len]; omega)
      (fun hlt => by
        have := hn (by simpa using hlt)
        simp only [List.take_succ_cons, bytesOf] at this
        rw [frameL_len]; omega) (by simp only [bytesOf] at hk; rw [frameL_len]; omega)
    rw [ih]

end Go.Proofs.Yteagmdnpajalgaa
