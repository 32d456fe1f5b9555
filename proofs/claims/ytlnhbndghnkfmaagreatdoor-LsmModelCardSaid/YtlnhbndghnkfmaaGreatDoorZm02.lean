/- Plain mathematics of scanning: frames one behind the other. Plain mathematics of a log in segments: names and numbers of segments, which segments there are. It names no program. Walks over package code: the sums. -/
import Derived.Test.YtlnhbndghnkfmaaGreatDoorZm01
import Derived.Test.YtlnhbndghnkfmaaGreatDoorChecked
import Derived.WalkKit
import Derived.Handy
import Derived.Lib.Hide
namespace Go.Proofs.YtlnhbndghnkfmaaGreatDoor

/-- The string of the frame at the beginning of l, if one stands there. rd tells the number of four bytes. -/
def rd4 (a b c d : UInt8) : Nat := ((a.toNat * 256 + b.toNat) * 256 + c.toNat) * 256 + d.toNat
/-- The number of the first four bytes. -/
def rdS : List UInt8 → Nat
  | a :: b :: c :: d :: _ => rd4 a b c d
  | _ => 0
def first (l : List UInt8) : Option (List UInt8) :=
  if l.length < 8 then none
  else if 65536 < rdS l ∨ l.length < 8 + rdS l then none
  else if rdS (l.drop 4) = Crc.sum (l.take 4 ++ (l.drop 8).take (rdS l)) then some ((l.drop 8).take (rdS l)) else none

theorem first_len {l b : List UInt8} (h : first l = some b) : 8 + b.length ≤ l.length ∧ b.length ≤ 65536 := by
  unfold first at h
  split at h
  · cases h
  split at h
  · cases h
  split at h
  · injection h with h
    rw [← h, List.length_take, List.length_drop]
    omega
  · cases h

def scanF : Nat → List UInt8 → List (List UInt8)
  | 0, _ => []
  | f + 1, l => match first l with
    | none => []
    | some b => b :: scanF f (l.drop (8 + b.length))
def scanAll (l : List UInt8) : List (List UInt8) := scanF l.length l
def bytesOf : List (List UInt8) → Nat
  | [] => 0
  | b :: r => 8 + b.length + bytesOf r

theorem scanF_enough : ∀ (f g : Nat) (l : List UInt8), l.length ≤ f → l.length ≤ g → scanF f l = scanF g l
  | 0, 0, _, _, _ => rfl
  | 0, g + 1, l, h, _ => by
    have : first l = none := by unfold first; rw [if_pos (by omega)]
    simp [scanF, this]
  | f + 1, 0, l, _, h => by
    have : first l = none := by unfold first; rw [if_pos (by omega)]
    simp [scanF, this]
  | f + 1, g + 1, l, hf, hg => by
    simp only [scanF]
    cases h : first l with
    | none => rfl
    | some b =>
      have hl := (first_len h).1
      simp only []
      rw [scanF_enough f g _ (by rw [List.length_drop]; omega) (by rw [List.length_drop]; omega)]
theorem scanAll_none {l : List UInt8} (h : first l = none) : scanAll l = [] := by
  unfold scanAll
  cases l.length with
  | zero => rfl
  | succ n => simp [scanF, h]
theorem scanAll_some {l b : List UInt8} (h : first l = some b) : scanAll l = b :: scanAll (l.drop (8 + b.length)) := by
  have hl := (first_len h).1
  have e : scanAll l = scanF (l.length + 1) l := scanF_enough _ _ l (Nat.le_refl _) (by omega)
  rw [e]
  simp only [scanF, h]
  unfold scanAll
  rw [scanF_enough l.length _ _ (by rw [List.length_drop]; omega) (Nat.le_refl _)]
theorem bytesOf_append (a b : List (List UInt8)) : bytesOf (a ++ b) = bytesOf a + bytesOf b := by
  induction a with
  | nil => simp [bytesOf]
  | cons x a ih => simp only [List.cons_append, bytesOf, ih]; omega
theorem bytesOf_scan (n : Nat) : ∀ l : List UInt8, l.length ≤ n → bytesOf (scanAll l) ≤ l.length := by
  induction n with
  | zero =>
    intro l h
    have : scanAll l = [] := scanAll_none (by unfold first; rw [if_pos (by omega)])
    rw [this]; exact Nat.zero_le _
  | succ n ih =>
    intro l h
    cases hf : first l with
    | none => rw [scanAll_none hf]; exact Nat.zero_le _
    | some b =>
      have hl := (first_len hf).1
      rw [scanAll_some hf]
      have := ih (l.drop (8 + b.length)) (by rw [List.length_drop]; omega)
      rw [List.length_drop] at this
      simp only [bytesOf]
      omega
theorem count_bytes (L : List (List UInt8)) : 8 * L.length ≤ bytesOf L := by
  induction L with
  | nil => exact Nat.zero_le _
  | cons x a ih => simp only [List.length_cons, bytesOf]; omega
end Go.Proofs.YtlnhbndghnkfmaaGreatDoor
namespace Go.Proofs.YtlnhbndghnkfmaaGreatDoor

/-- The last six digits of n. -/
def dig6 (n : Nat) : List UInt8 := [UInt8.ofNat (48 + n / 100000 % 10), UInt8.ofNat (48 + n / 10000 % 10), UInt8.ofNat (48 + n / 1000 % 10), UInt8.ofNat (48 + n / 100 % 10), UInt8.ofNat (48 + n / 10 % 10), UInt8.ofNat (48 + n % 10)]
def dotB : ByteArray := ⟨#[46]⟩
/-- The name of segment n. -/
def nameW (p : ByteArray) (n : Nat) : ByteArray := p ++ dotB ++ ⟨(dig6 n).toArray⟩
theorem nameW_list (p : ByteArray) (n : Nat) : (nameW p n).data.toList = p.data.toList ++ 46 :: dig6 n := by
  unfold nameW dotB
  rw [ByteArray.data_append, ByteArray.data_append, Array.toList_append, Array.toList_append]
  simp
theorem nameW_size (p : ByteArray) (n : Nat) : (nameW p n).size = p.size + 7 := by
  unfold nameW
  rw [ByteArray.size_append, ByteArray.size_append]
  rfl
theorem u8_dig (n : Nat) : (UInt8.ofNat (48 + n % 10)).toNat = 48 + n % 10 := by
  rw [UInt8.toNat_ofNat']
  omega
theorem dig6_inj {i j : Nat} (hi : i < 1000000) (hj : j < 1000000) (h : dig6 i = dig6 j) : i = j := by
  unfold dig6 at h
  simp only [List.cons.injEq, and_true] at h
  obtain ⟨h1, h2, h3, h4, h5, h6⟩ := h
  have k1 := congrArg UInt8.toNat h1
  have k2 := congrArg UInt8.toNat h2
  have k3 := congrArg UInt8.toNat h3
  have k4 := congrArg UInt8.toNat h4
  have k5 := congrArg UInt8.toNat h5
  have k6 := congrArg UInt8.toNat h6
  rw [u8_dig, u8_dig] at k1 k2 k3 k4 k5 k6
  omega
theorem nameW_inj {p : ByteArray} {i j : Nat} (hi : i < 1000000) (hj : j < 1000000) (h : nameW p i = nameW p j) : i = j := by
  have := congrArg (fun x : ByteArray => x.data.toList) h
  simp only [nameW_list] at this
  have := List.append_cancel_left this
  injection this with _ this
  exact dig6_inj hi hj this

def isDig (c : UInt8) : Bool := decide (48 ≤ c.toNat ∧ c.toNat ≤ 57)
def numL (l : List UInt8) : Nat := l.foldl (fun n c => n * 10 + (c.toNat - 48)) 0
/-- The number of the segment of that name. -/
def numW (p nm : ByteArray) : Option Nat :=
  if (p ++ dotB).size ≤ nm.size ∧ nm.extract 0 (p ++ dotB).size = p ++ dotB ∧ nm.size - (p ++ dotB).size = 6 ∧ (nm.extract (p ++ dotB).size nm.size).data.toList.all isDig = true then some (numL (nm.extract (p ++ dotB).size nm.size).data.toList) else none
theorem dot_size (p : ByteArray) : (p ++ dotB).size = p.size + 1 := by rw [ByteArray.size_append]; rfl
theorem ext_list (s : ByteArray) (a b : Nat) : (s.extract a b).data.toList = (s.data.toList.drop a).take (b - a) := by
  rw [ByteArray.data_extract, Array.toList_extract, List.extract_eq_take_drop]
theorem size_list (s : ByteArray) : s.size = s.data.toList.length := by rw [Array.length_toList]; rfl
theorem bytes_ext {x y : ByteArray} (h : x.data.toList = y.data.toList) : x = y := ByteArray.ext (Array.toList_inj.1 h)
theorem split_at (nm : ByteArray) (k : Nat) : nm.extract 0 k ++ nm.extract k nm.size = nm := by
  apply bytes_ext
  rw [ByteArray.data_append, Array.toList_append, ext_list, ext_list, List.drop_zero, Nat.sub_zero, size_list nm, ← List.length_drop, List.take_length, List.take_append_drop]
theorem digits_back (l : List UInt8) (h6 : l.length = 6) (hd : l.all isDig = true) : numL l < 1000000 ∧ dig6 (numL l) = l := by
  match l, h6 with
  | [a, b, c, d, e, f], _ =>
    simp only [List.all_cons, List.all_nil, Bool.and_true, Bool.and_eq_true, isDig, decide_eq_true_eq] at hd
    obtain ⟨ha, hb, hc, hd, he, hf⟩ := hd
    have e0 : numL [a, b, c, d, e, f] = (((((0 * 10 + (a.toNat - 48)) * 10 + (b.toNat - 48)) * 10 + (c.toNat - 48)) * 10 + (d.toNat - 48)) * 10 + (e.toNat - 48)) * 10 + (f.toNat - 48) := rfl
    rw [e0]
    refine ⟨by omega, ?_⟩
    unfold dig6
    have k : ∀ (x : UInt8) (n : Nat), n % 10 = x.toNat - 48 → 48 ≤ x.toNat → UInt8.ofNat (48 + n % 10) = x := fun x n h1 h2 => by
      apply UInt8.toNat_inj.1
      rw [u8_dig]
      omega
    rw [k a _ (by omega) ha.1, k b _ (by omega) hb.1, k c _ (by omega) hc.1, k d _ (by omega) hd.1, k e _ (by omega) he.1, k f _ (by omega) hf.1]
theorem dig6_len (n : Nat) : (dig6 n).length = 6 := rfl
theorem dig6_all (n : Nat) : (dig6 n).all isDig = true := by
  unfold dig6
  simp only [List.all_cons, List.all_nil, Bool.and_true, Bool.and_eq_true, isDig, decide_eq_true_eq, u8_dig]
  omega
theorem numL_dig6 {n : Nat} (hn : n < 1000000) : numL (dig6 n) = n := by
  have h := digits_back (dig6 n) (dig6_len n) (dig6_all n)
  exact dig6_inj h.1 hn h.2
theorem num_iff (p nm : ByteArray) (i : Nat) : numW p nm = some i ↔ i < 1000000 ∧ nm = nameW p i := by
  unfold numW
  constructor
  · intro h
    split at h
    · rename_i hc
      obtain ⟨-, h2, h3, h4⟩ := hc
      injection h with h
      have hl : (nm.extract (p ++ dotB).size nm.size).data.toList.length = 6 := by rw [← size_list, ByteArray.size_extract]; omega
      obtain ⟨k1, k2⟩ := digits_back _ hl h4
      rw [h] at k1 k2
      refine ⟨k1, ?_⟩
      rw [← split_at nm _, h2]
      unfold nameW
      congr 1
      apply bytes_ext
      rw [k2]
    · cases h
  · rintro ⟨hi, rfl⟩
    have hs := nameW_size p i
    have hd := dot_size p
    have e1 : (nameW p i).extract 0 (p ++ dotB).size = p ++ dotB := by
      apply bytes_ext
      rw [ext_list, nameW_list, List.drop_zero, Nat.sub_zero, hd, ByteArray.data_append, Array.toList_append, size_list p, List.take_append, Nat.add_sub_cancel_left, List.take_of_length_le (Nat.le_succ _)]
      rfl
    have e2 : ((nameW p i).extract (p ++ dotB).size (nameW p i).size).data.toList = dig6 i := by
      rw [ext_list, nameW_list, hd, hs, show p.size + 7 - (p.size + 1) = 6 by omega, List.drop_append, size_list p, List.drop_of_length_le (Nat.le_succ _), Nat.add_sub_cancel_left]
      rfl
    rw [e2, dig6_all, numL_dig6 hi, hd, hs, if_pos ⟨by omega, by rw [← hd]; exact e1, by omega, rfl⟩]

/-- Segment i, if it is there. -/
def segO (L : List F) (p : ByteArray) (i : Nat) : Option F := if i < 1000000 then L.find? (fun f => eqS f.name (nameW p i)) else none
theorem segO_name {L : List F} {p : ByteArray} {i : Nat} {f : F} (h : segO L p i = some f) : i < 1000000 ∧ f.name = nameW p i ∧ f ∈ L := by
  unfold segO at h
  split at h
  · rename_i hi
    refine ⟨hi, ?_, List.mem_of_find?_eq_some h⟩
    have := List.find?_some h
    exact eqS_iff.1 this
  · cases h
theorem segO_snoc (A : List F) (f : F) (p : ByteArray) (i : Nat) : segO (A ++ [f]) p i = match segO A p i with
    | some x => some x
    | none => if numW p f.name = some i then some f else none := by
  unfold segO
  by_cases hi : i < 1000000
  · rw [if_pos hi, if_pos hi, List.find?_append]
    cases hA : A.find? (fun f => eqS f.name (nameW p i)) with
    | some x => rfl
    | none =>
      rw [Option.none_or, List.find?_cons]
      by_cases hf : f.name = nameW p i
      · rw [if_pos ((num_iff _ _ _).2 ⟨hi, hf⟩), eqS_iff.2 hf]
      · rw [if_neg (fun h => hf ((num_iff _ _ _).1 h).2), eqS_ne hf]
        rfl
  · rw [if_neg hi, if_neg hi, if_neg (fun h => hi ((num_iff _ _ _).1 h).1)]
def zeroF : F := ⟨⟨#[]⟩, ⟨#[]⟩, ⟨#[]⟩⟩
/-- What the first files make of the places. -/
def logAt (A : List F) (p : ByteArray) (n : Nat) : List F := (List.range n).map fun i => (segO A p i).getD zeroF
theorem logAt_len (A : List F) (p : ByteArray) (n : Nat) : (logAt A p n).length = n := by unfold logAt; rw [List.length_map, List.length_range]
theorem logAt_at {A : List F} {p : ByteArray} {n i : Nat} (h : i < (logAt A p n).length) : (logAt A p n)[i] = (segO A p i).getD zeroF := by
  simp only [logAt, List.getElem_map, List.getElem_range]
theorem logAt_nil (p : ByteArray) (n : Nat) : logAt [] p n = List.replicate n zeroF := by
  apply List.ext_getElem
  · rw [logAt_len, List.length_replicate]
  · intro i h1 h2
    rw [logAt_at, List.getElem_replicate]
    unfold segO
    split <;> rfl
theorem logAt_put {A : List F} {f : F} {p : ByteArray} {n i : Nat} (hn : numW p f.name = some i) (hf : segO A p i = none) : logAt (A ++ [f]) p n = (logAt A p n).set i f := by
  apply List.ext_getElem
  · rw [List.length_set, logAt_len, logAt_len]
  · intro j h1 h2
    rw [logAt_at, List.getElem_set]
    rw [logAt_len] at h1
    split
    · rename_i e
      subst e
      rw [segO_snoc, hf]
      simp only
      rw [if_pos hn]
      rfl
    · rename_i e
      rw [logAt_at, segO_snoc]
      cases h : segO A p j with
      | some x => rfl
      | none =>
        simp only
        rw [if_neg (fun h => e (by rw [hn] at h; injection h))]
theorem logAt_not {A : List F} {f : F} {p : ByteArray} {n : Nat} (h : ∀ i, numW p f.name = some i → i < n → segO A p i ≠ none) : logAt (A ++ [f]) p n = logAt A p n := by
  apply List.ext_getElem
  · rw [logAt_len, logAt_len]
  · intro j h1 h2
    rw [logAt_at, logAt_at, segO_snoc]
    rw [logAt_len] at h1
    cases hs : segO A p j with
    | some x => rfl
    | none =>
      simp only
      rw [if_neg (fun e => h j e h1 hs)]
/-- m segments there are. -/
def IsSeg (L : List F) (p : ByteArray) (m : Nat) : Prop := (∀ i, i < m → segO L p i ≠ none) ∧ segO L p m = none
theorem IsSeg.one {L : List F} {p : ByteArray} {m k : Nat} (h : IsSeg L p m) (h' : IsSeg L p k) : m = k := by
  rcases Nat.lt_trichotomy m k with e | e | e
  · exact absurd h.2 (h'.1 m e)
  · exact e
  · exact absurd h'.2 (h.1 k e)
theorem pigeon : ∀ (A B : List Nat), A.Nodup → (∀ x ∈ A, x ∈ B) → A.length ≤ B.length
  | [], _, _, _ => Nat.zero_le _
  | x :: A, B, hn, h => by
    rw [List.nodup_cons] at hn
    have hx := h x List.mem_cons_self
    have := pigeon A (B.erase x) hn.2 (fun y hy => (List.mem_erase_of_ne (fun e => hn.1 (by rw [← e]; exact hy))).2 (h y (List.mem_cons_of_mem _ hy)))
    rw [List.length_erase_of_mem hx] at this
    have hp := List.length_pos_of_mem hx
    rw [List.length_cons]
    omega
theorem seg_le {L : List F} {p : ByteArray} {m : Nat} (h : ∀ i, i < m → segO L p i ≠ none) : m ≤ L.length := by
  have hat : ∀ i, i < m → i < 1000000 ∧ findF L (nameW p i) < L.length := fun i hi => by
    obtain ⟨f, hf⟩ := Option.ne_none_iff_exists'.1 (h i hi)
    obtain ⟨h1, h2, h3⟩ := segO_name hf
    refine ⟨h1, List.findIdx_lt_length_of_exists ⟨f, h3, eqS_iff.2 h2⟩⟩
  have := pigeon ((List.range m).map fun i => findF L (nameW p i)) (List.range L.length) (by
    refine List.pairwise_map.2 (List.Pairwise.imp_of_mem ?_ (List.nodup_range (n := m)))
    intro i j hi hj hne e
    rw [List.mem_range] at hi hj
    have a := hat i hi
    have b := hat j hj
    have n1 := findF_name a.2
    have n2 := findF_name b.2
    refine hne (nameW_inj a.1 b.1 (p := p) ?_)
    rw [← n1, ← n2]
    simp only [e]) (fun x hx => by
    obtain ⟨i, hi, rfl⟩ := List.mem_map.1 hx
    exact List.mem_range.2 (hat i (List.mem_range.1 hi)).2)
  rw [List.length_map, List.length_range, List.length_range] at this
  exact this
theorem IsSeg.le {L : List F} {p : ByteArray} {m : Nat} (h : IsSeg L p m) : m ≤ L.length ∧ m ≤ 1000000 := by
  refine ⟨seg_le h.1, ?_⟩
  rcases Nat.lt_or_ge 1000000 m with e | e
  · exact absurd (by unfold segO; rw [if_neg (by omega)]) (h.1 1000000 e)
  · exact e
/-- All of n places are taken: then there are just n segments. -/
theorem seg_all {L : List F} {p : ByteArray} (h : ∀ i, i < L.length → segO L p i ≠ none) : IsSeg L p L.length := by
  refine ⟨h, ?_⟩
  rcases hn : segO L p L.length with _ | f
  · rfl
  · have := seg_le (L := L) (p := p) (m := L.length + 1) (fun i hi => by
      rcases Nat.lt_or_ge i L.length with e | e
      · exact h i e
      · obtain rfl : i = L.length := by omega
        rw [hn]; exact Option.some_ne_none _)
    omega
/-- How many segments there are. -/
def segN (L : List F) (p : ByteArray) : Nat := (List.range L.length).findIdx fun i => (segO L p i).isNone
theorem segN_is (L : List F) (p : ByteArray) : IsSeg L p (segN L p) := by
  have hle : segN L p ≤ L.length := by
    have := List.findIdx_le_length (xs := List.range L.length) (p := fun i => (segO L p i).isNone)
    rw [List.length_range] at this
    exact this
  have hb : ∀ i, i < segN L p → segO L p i ≠ none := fun i hi => by
    have := List.not_of_lt_findIdx hi
    rw [List.getElem_range] at this
    intro e
    rw [e] at this
    cases this
  rcases Nat.lt_or_ge (segN L p) L.length with h | h
  · refine ⟨hb, ?_⟩
    have := List.findIdx_getElem (xs := List.range L.length) (p := fun i => (segO L p i).isNone) (w := by rw [List.length_range]; exact h)
    rw [List.getElem_range] at this
    exact Option.isNone_iff_eq_none.1 this
  · have e : segN L p = L.length := by omega
    rw [e] at hb ⊢
    exact seg_all hb
theorem segN_eq {L : List F} {p : ByteArray} {m : Nat} (h : IsSeg L p m) : segN L p = m := (segN_is L p).one h
/-- The log's segments. -/
def segL (L : List F) (p : ByteArray) : List F := (List.range (segN L p)).map fun i => (segO L p i).getD zeroF
theorem segL_len (L : List F) (p : ByteArray) : (segL L p).length = segN L p := by unfold segL; rw [List.length_map, List.length_range]
theorem segL_take (L : List F) (p : ByteArray) : segL L p = (logAt L p L.length).take (segN L p) := by
  have h := (segN_is L p).le.1
  apply List.ext_getElem
  · rw [segL_len, List.length_take, logAt_len]; omega
  · intro i h1 h2
    rw [List.getElem_take, logAt_at]
    simp only [segL, List.getElem_map, List.getElem_range]
theorem segL_at {L : List F} {p : ByteArray} {i : Nat} (h : i < (segL L p).length) : segO L p i = some (segL L p)[i] := by
  have hs : i < segN L p := by rw [segL_len] at h; exact h
  obtain ⟨f, hf⟩ := Option.ne_none_iff_exists'.1 ((segN_is L p).1 i hs)
  simp only [segL, List.getElem_map, List.getElem_range, hf, Option.getD_some]
theorem segL_mem {L : List F} {p : ByteArray} {f : F} (h : f ∈ segL L p) : f ∈ L := by
  obtain ⟨i, hi, rfl⟩ := List.mem_iff_getElem.1 h
  exact (segO_name (segL_at hi)).2.2
end Go.Proofs.YtlnhbndghnkfmaaGreatDoor
namespace Go.Proofs.YtlnhbndghnkfmaaGreatDoor
open Go.RowKit

theorem and_u32 (a b : Nat) (ha : a < 4294967296) (hb : b < 4294967296) : bits .and .u32 (a : Int) (b : Int) = ((a &&& b : Nat) : Int) :=
  (bits_nat .u32 32 (by decide) (fun n h0 h1 => by rw [IntKind.wrap_u32]; omega) a b ha hb).1
theorem or_u32 (a b : Nat) (ha : a < 4294967296) (hb : b < 4294967296) : bits .or .u32 (a : Int) (b : Int) = ((a ||| b : Nat) : Int) :=
  (bits_nat .u32 32 (by decide) (fun n h0 h1 => by rw [IntKind.wrap_u32]; omega) a b ha hb).2
theorem xor_u32 (a b : Nat) (ha : a < 4294967296) (hb : b < 4294967296) : bits .xor .u32 (a : Int) (b : Int) = ((a ^^^ b : Nat) : Int) := by
  have h1 : (BitVec.ofInt 32 (a : Int)).toNat = a := by
    rw [BitVec.ofInt_natCast, BitVec.toNat_ofNat]; exact Nat.mod_eq_of_lt (by omega)
  have h2 : (BitVec.ofInt 32 (b : Int)).toNat = b := by
    rw [BitVec.ofInt_natCast, BitVec.toNat_ofNat]; exact Nat.mod_eq_of_lt (by omega)
  show IntKind.u32.wrap ((BitVec.ofInt 32 (a : Int) ^^^ BitVec.ofInt 32 (b : Int)).toNat : Int) = _
  have hx := Crc.xor_lt ha hb
  rw [BitVec.toNat_xor, h1, h2, IntKind.wrap_u32]
  omega

/-- The short table of package code lies where the program laid it. -/
def Halves (w : World) : Prop := ∀ k : Nat, k < 16 → w.cell? ⟨1, k, none⟩ = some (.int .u32 (Crc.halfT k : Nat))

theorem turned_any (n : Nat) (hn : n < 4294967296) (w : World) (hH : Halves w) :
    Calls Tryz.prog 188 #[.int .u32 (n : Int)] w fun e w' => e = .returned (.int .u32 (Crc.turned n : Nat)) ∧ w = w' := by
  obtain ⟨k1, hk1⟩ : ∃ k, k = n % 16 := ⟨_, rfl⟩
  have a1 : bits .and .u32 (n : Int) 15 = (k1 : Int) := by
    rw [hk1]
    have := and_u32 n 15 hn (by decide)
    rw [show n &&& 15 = n % 16 from Nat.and_two_pow_sub_one_eq_mod n 4] at this
    exact this
  have c1 := hH k1 (by omega)
  obtain ⟨t1, ht1⟩ : ∃ t, t = Crc.halfT k1 := ⟨_, rfl⟩
  have ht1l : t1 < 4294967296 := by rw [ht1]; exact Crc.halfT_lt _
  rw [← ht1] at c1
  obtain ⟨m, hm⟩ : ∃ m, m = Crc.half n := ⟨_, rfl⟩
  have hml : m < 4294967296 := by rw [hm]; exact Crc.half_lt hn
  have x1 : bits .xor .u32 ((n : Int) / 16) (t1 : Int) = (m : Int) := by
    have := xor_u32 (n / 16) t1 (by omega) ht1l
    rw [hm]; unfold Crc.half; rw [← hk1, ← ht1, ← this]; rfl
  obtain ⟨k2, hk2⟩ : ∃ k, k = m % 16 := ⟨_, rfl⟩
  have a2 : bits .and .u32 (m : Int) 15 = (k2 : Int) := by
    rw [hk2]
    have := and_u32 m 15 hml (by decide)
    rw [show m &&& 15 = m % 16 from Nat.and_two_pow_sub_one_eq_mod m 4] at this
    exact this
  have c2 := hH k2 (by omega)
  obtain ⟨t2, ht2⟩ : ∃ t, t = Crc.halfT k2 := ⟨_, rfl⟩
  have ht2l : t2 < 4294967296 := by rw [ht2]; exact Crc.halfT_lt _
  rw [← ht2] at c2
  obtain ⟨r, hr⟩ : ∃ r, r = Crc.turned n := ⟨_, rfl⟩
  have x2 : bits .xor .u32 ((m : Int) / 16) (t2 : Int) = (r : Int) := by
    have := xor_u32 (m / 16) t2 (by omega) ht2l
    rw [hr]; unfold Crc.turned; rw [← hm]; unfold Crc.half; rw [← hk2, ← ht2, ← this]; rfl
  have HR := Lib.hid hr
  have hk1l : k1 < 16 := by omega
  have hk2l : k2 < 16 := by omega
  clear hr hk1 hk2 hm ht1 ht2 hH
  go_enter Tryz.func188, Tryz.ntmps188
  go_wp2
  go_ret
  exact ⟨by rw [← HR.out]; rfl, rfl⟩

theorem take_snoc (l : List UInt8) (k : Nat) (h : k < l.length) : l.take (k + 1) = l.take k ++ [l[k]] := by
  rw [List.take_succ_eq_append_getElem h]

theorem sumOn_any (n : Nat) (hn : n < 4294967296) (s : ByteArray) (hs : s.size ≤ maxLen) (w : World) (hH : Halves w) :
    Calls Tryz.prog 180 #[.int .u32 (n : Int), .string s] w fun e w' => e = .returned (.int .u32 (Crc.sumOn n s.data.toList : Nat)) ∧ w = w' := by
  unfold maxLen at hs
  go_enter Tryz.func180, Tryz.ntmps180
  go_wp2_with fail
  go_loop [0, 8] (fun c i => ∃ k : Nat, k ≤ s.size ∧ i = .int .i64 k ∧ c = .int .u32 (Crc.sumOn n (s.data.toList.take k) : Nat)) (fun _ i => s.size - (intOf i).toNat)
  case atStart => exact ⟨0, Nat.zero_le _, rfl, rfl⟩
  case round =>
    obtain ⟨k, hk, rfl, rfl⟩ := hrel
    obtain ⟨c, hc⟩ : ∃ c, c = Crc.sumOn n (s.data.toList.take k) := ⟨_, rfl⟩
    have hcl : c < 4294967296 := by rw [hc]; exact Crc.sumOn_lt _ hn
    by_cases hlt : k < s.size
    · have hts := take_snoc s.data.toList k (by simpa using hlt)
      have hbn : s[k].toNat < 256 := s[k].toNat_lt
      obtain ⟨d, hd⟩ : ∃ d, d = c ^^^ s[k].toNat := ⟨_, rfl⟩
      have hdl : d < 4294967296 := by rw [hd]; exact Crc.xor_lt hcl (by omega)
      have hx : bits .xor .u32 (c : Int) ((s[k].toNat : Int) % 4294967296) = (d : Int) := by
        rw [show ((s[k].toNat : Int) % 4294967296) = (s[k].toNat : Int) from by omega, hd]
        exact xor_u32 c _ hcl (by omega)
      have hs1 : Crc.sumOn n (s.data.toList.take (k + 1)) = Crc.turned d := by
        rw [hts, Crc.sumOn_snoc, ← hc, hd]; rfl
      have HC := Lib.hid hs1
      rw [← hc]
      clear hs1 hts hc hd hbn
      go_wp2_with (go_at_call 188; refine (turned_any d hdl _ hH).mono ?_; rintro e w' ⟨rfl, rfl⟩)
      go_round
      case rel => exact ⟨k + 1, by omega, by go_num, by rw [HC.out]⟩
      case measure => simp [intOf]; omega
    · have hlast : s.data.toList.take k = s.data.toList := List.take_of_length_le (by simp; omega)
      have HC := Lib.hid hc
      have HL := Lib.hid hlast
      rw [← hc]
      clear hc hlast
      go_wp2
      go_ret
      exact ⟨by rw [← HL.out, ← HC.out]; rfl, rfl⟩

theorem not_u32 (n : Nat) (hn : n < 4294967296) : bits .xor .u32 IntKind.u32.max (n : Int) = (Crc.fin n : Int) := by
  have := xor_u32 4294967295 n (by decide) hn
  rw [Nat.xor_comm] at this
  exact this

end Go.Proofs.YtlnhbndghnkfmaaGreatDoor
