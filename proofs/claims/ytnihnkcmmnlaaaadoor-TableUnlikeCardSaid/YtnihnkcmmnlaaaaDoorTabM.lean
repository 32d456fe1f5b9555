/- Plain mathematics of tables: blocks, an index, an end; what is built is read again, and what is read was built so. -/
import Derived.Test.YtnihnkcmmnlaaaaDoorTabA
import Derived.Test.YtnihnkcmmnlaaaaDoorPlainOrd
import Derived.Test.YtnihnkcmmnlaaaaDoorPackMath
import Derived.Test.YtnihnkcmmnlaaaaDoorByteM
namespace Go.Proofs.YtnihnkcmmnlaaaaDoor
open Go.RowKit

/-- Keys and values, one behind the other. -/
def kvs (L : List PR) : List ByteArray := L.flatMap fun p => [p.key, p.val]
theorem kvs_nil : kvs [] = [] := rfl
theorem kvs_cons (p : PR) (L : List PR) : kvs (p :: L) = p.key :: p.val :: kvs L := rfl
theorem kvs_append (a b : List PR) : kvs (a ++ b) = kvs a ++ kvs b := by unfold kvs; rw [List.flatMap_append]
theorem kvs_len (L : List PR) : (kvs L).length = 2 * L.length := by
  induction L with
  | nil => rfl
  | cons p L ih => rw [kvs_cons, List.length_cons, List.length_cons, ih, List.length_cons]; omega
theorem kvs_snoc (L : List PR) (p : PR) : kvs (L ++ [p]) = kvs L ++ [p.key, p.val] := by rw [kvs_append]; rfl
/-- Fields that have a frame. -/
def okBlk (fs : List ByteArray) : Prop := okPack fs ∧ (packL fs).length ≤ 65536
def chunk (L : List PR) (k : Nat) : List PR := (L.drop (8 * k)).take 8
def nCh (L : List PR) : Nat := (L.length + 7) / 8
def bodyC (L : List PR) (k : Nat) : List UInt8 := packL (kvs (chunk L k))
/-- The strings of the first k blocks' frames. -/
def bodiesK (L : List PR) : Nat → List (List UInt8)
  | 0 => []
  | k + 1 => bodiesK L k ++ [bodyC L k]
def keyAt (L : List PR) (k : Nat) : ByteArray := (L[k]?.map PR.key).getD ⟨#[]⟩
/-- The fields of the index, of the first k blocks. -/
def idxK (L : List PR) : Nat → List ByteArray
  | 0 => []
  | k + 1 => idxK L k ++ [keyAt L (8 * k), bs (be8 (bytesOf (bodiesK L k)))]
def okK (L : List PR) (k : Nat) : Prop := ∀ j, j < k → okBlk (kvs (chunk L j))
def rises (L : List PR) : Prop := ∀ j (h : j + 1 < L.length), lessS L[j].key L[j + 1].key = true
def idxL (L : List PR) : List UInt8 := packL (idxK L (nCh L))
/-- All frames' strings: the blocks', the index'. -/
def allB (L : List PR) : List (List UInt8) := bodiesK L (nCh L) ++ [idxL L]
def tabL (L : List PR) : List UInt8 := joinL (allB L) ++ be8 (8 + (idxL L).length)
def okTab (L : List PR) : Prop := L.length ≤ 1024 ∧ rises L ∧ okK L (nCh L) ∧ okBlk (idxK L (nCh L)) ∧ (tabL L).length ≤ 1048576
open Classical in
noncomputable def buildR (L : List PR) : ByteArray × Nat :=
  if 1024 < L.length then (⟨#[]⟩, 2) else if rises L then (if okTab L then (bs (tabL L), 0) else (⟨#[]⟩, 2)) else (⟨#[]⟩, 1)
theorem buildR_long {L : List PR} (h : 1024 < L.length) : buildR L = (⟨#[]⟩, 2) := by unfold buildR; rw [if_pos h]
theorem buildR_arg {L : List PR} (h : ¬ 1024 < L.length) (h2 : ¬ rises L) : buildR L = (⟨#[]⟩, 1) := by unfold buildR; rw [if_neg h, if_neg h2]
theorem buildR_no {L : List PR} (h : ¬ 1024 < L.length) (h2 : rises L) (h3 : ¬ okTab L) : buildR L = (⟨#[]⟩, 2) := by unfold buildR; rw [if_neg h, if_pos h2, if_neg h3]
theorem buildR_ok {L : List PR} (h : okTab L) : buildR L = (bs (tabL L), 0) := by unfold buildR; rw [if_neg (by have := h.1; omega), if_pos h.2.1, if_pos h]
theorem buildR_bad {L : List PR} (h : ¬ okTab L) : (buildR L).1 = ⟨#[]⟩ ∧ ((buildR L).2 = 1 ∨ (buildR L).2 = 2) := by
  by_cases h1 : 1024 < L.length
  · rw [buildR_long h1]; exact ⟨rfl, .inr rfl⟩
  · by_cases h2 : rises L
    · rw [buildR_no h1 h2 h]; exact ⟨rfl, .inr rfl⟩
    · rw [buildR_arg h1 h2]; exact ⟨rfl, .inl rfl⟩
theorem buildR_zero {L : List PR} (h : (buildR L).2 = 0) : okTab L := by
  apply Classical.byContradiction
  intro hn
  rcases (buildR_bad hn).2 with k | k <;> omega

theorem bodiesK_len (L : List PR) (k : Nat) : (bodiesK L k).length = k := by
  induction k with
  | zero => rfl
  | succ k ih => show (bodiesK L k ++ [bodyC L k]).length = k + 1; rw [List.length_append, ih]; rfl
theorem idxK_len (L : List PR) (k : Nat) : (idxK L k).length = 2 * k := by
  induction k with
  | zero => rfl
  | succ k ih => show (idxK L k ++ [keyAt L (8 * k), bs (be8 (bytesOf (bodiesK L k)))]).length = 2 * (k + 1); rw [List.length_append, ih]; show 2 * k + 2 = _; omega
theorem bodiesK_ok {L : List PR} {k : Nat} (h : okK L k) : ∀ b ∈ bodiesK L k, b.length ≤ 65536 := by
  induction k with
  | zero => intro b hb; cases hb
  | succ k ih =>
    intro b hb
    rcases List.mem_append.1 hb with hb | hb
    · exact ih (fun j hj => h j (by omega)) b hb
    · rw [List.mem_singleton.1 hb]; exact (h k (by omega)).2
theorem bytes_bound (H : List (List UInt8)) (h : ∀ b ∈ H, b.length ≤ 65536) : bytesOf H ≤ H.length * 65544 := by
  induction H with
  | nil => exact Nat.zero_le _
  | cons b H ih =>
    have h1 := h b (by simp)
    have h2 := ih (fun x hx => h x (by simp [hx]))
    simp only [bytesOf, List.length_cons]
    omega
theorem bodiesK_bytes {L : List PR} {k : Nat} (h : okK L k) : bytesOf (bodiesK L k) ≤ k * 65544 := by
  have := bytes_bound _ (bodiesK_ok h)
  rwa [bodiesK_len] at this
theorem okK_mono {L : List PR} {j k : Nat} (h : okK L k) (hj : j ≤ k) : okK L j := fun i hi => h i (by omega)
theorem okK_succ {L : List PR} {k : Nat} (h : okK L k) (hk : okBlk (kvs (chunk L k))) : okK L (k + 1) := fun j hj => by
  rcases Nat.lt_or_ge j k with e | e
  · exact h j e
  · obtain rfl : j = k := by omega
    exact hk
theorem nCh_lt {L : List PR} {k : Nat} (h : 8 * k < L.length) : k < nCh L := by unfold nCh; omega
theorem nCh_end {L : List PR} {k : Nat} (h : 8 * k ≤ L.length + 7) (h2 : ¬ 8 * k < L.length) : k = nCh L := by unfold nCh; omega
theorem chunk_len (L : List PR) (k : Nat) : (chunk L k).length = min 8 (L.length - 8 * k) := by unfold chunk; rw [List.length_take, List.length_drop]
theorem allB_ok {L : List PR} (h : okTab L) : ∀ b ∈ allB L, b.length ≤ 65536 := by
  intro b hb
  rcases List.mem_append.1 hb with hb | hb
  · exact bodiesK_ok h.2.2.1 b hb
  · rw [List.mem_singleton.1 hb]; exact h.2.2.2.1.2
theorem be8_len (n : Nat) : (be8 n).length = 8 := rfl
theorem tabL_len (L : List PR) : (tabL L).length = bytesOf (allB L) + 8 := by unfold tabL; rw [List.length_append, joinL_len, be8_len]
theorem tabL_take (L : List PR) : (tabL L).take ((tabL L).length - 8) = joinL (allB L) := by
  rw [tabL_len, Nat.add_sub_cancel, ← joinL_len]
  unfold tabL
  rw [List.take_left]
theorem scan_all {H : List (List UInt8)} (h : ∀ b ∈ H, b.length ≤ 65536) : scanAll (joinL H) = H := by
  have := scan_join [] H h
  rw [List.append_nil] at this
  rw [this, scanAll_none (l := []) rfl, List.append_nil]
theorem scan_tab {L : List PR} (h : okTab L) : scanAll ((tabL L).take ((tabL L).length - 8)) = allB L := by rw [tabL_take, scan_all (allB_ok h)]

theorem frameB_bs (b : List UInt8) : frameB (bs b) = bs (frameL b) := by
  apply ByteArray.ext
  apply Array.toList_inj.1
  rw [frameB_data]
  rfl
theorem frameB_len (b : List UInt8) : (frameB (bs b)).size = 8 + b.length := by rw [frameB_bs, bs_size, frameL_len]
theorem out_succ (L : List PR) (k : Nat) : bs (joinL (bodiesK L (k + 1))) = bs (joinL (bodiesK L k)) ++ frameB (bs (bodyC L k)) := by
  show bs (joinL (bodiesK L k ++ [bodyC L k])) = _
  rw [joinL_snoc, frameB_bs, bs_append]
theorem out_size (L : List PR) (k : Nat) : (bs (joinL (bodiesK L k))).size = bytesOf (bodiesK L k) := by rw [bs_size, joinL_len]
theorem key_at {L : List PR} {k : Nat} (h : k < L.length) : keyAt L k = L[k].key := by unfold keyAt; rw [List.getElem?_eq_getElem h]; rfl
theorem idx_succ {L : List PR} {k : Nat} (h : 8 * k < L.length) : idxK L (k + 1) = idxK L k ++ [L[8 * k].key, bs (be8 (bytesOf (bodiesK L k)))] := by
  show idxK L k ++ [keyAt L (8 * k), _] = _
  rw [key_at h]
theorem chunk_end {L : List PR} {k m : Nat} (hm : m ≤ 8) (h : ¬ (8 * k + m < L.length ∧ m < 8)) : (L.drop (8 * k)).take m = chunk L k := by
  unfold chunk
  rcases Nat.lt_or_ge m 8 with h8 | h8
  · rw [List.take_of_length_le (by rw [List.length_drop]; omega), List.take_of_length_le (by rw [List.length_drop]; omega)]
  · rw [show m = 8 from by omega]
theorem fin_eq (L : List PR) : bs (joinL (bodiesK L (nCh L))) ++ (frameB (bs (idxL L)) ++ bs (be8 (8 + (idxL L).length))) = bs (tabL L) := by
  unfold tabL allB
  rw [joinL_snoc, frameB_bs, bs_append, bs_append, List.append_assoc]
theorem fin_eq2 (L : List PR) : bs (joinL (bodiesK L (nCh L))) ++ frameB (bs (idxL L)) ++ bs (be8 (8 + (idxL L).length)) = bs (tabL L) := by
  unfold tabL allB
  rw [joinL_snoc, frameB_bs, bs_append, bs_append]

/-! what is read -/
def pairUp : List ByteArray → List PR
  | k :: v :: r => ⟨k, v⟩ :: pairUp r
  | _ => []
theorem pairUp_kvs (L : List PR) : pairUp (kvs L) = L := by
  induction L with
  | nil => rfl
  | cons p L ih => rw [kvs_cons]; show _ :: pairUp (kvs L) = _; rw [ih]
theorem kvs_pairUp : ∀ fs : List ByteArray, fs.length % 2 = 0 → kvs (pairUp fs) = fs
  | [], _ => rfl
  | [_], h => by simp at h
  | k :: v :: r, h => by
    show kvs (⟨k, v⟩ :: pairUp r) = _
    rw [kvs_cons, kvs_pairUp r (by simp only [List.length_cons] at h; omega)]
theorem pairUp_len (fs : List ByteArray) (h : fs.length % 2 = 0) : (pairUp fs).length = fs.length / 2 := by
  have h1 := kvs_len (pairUp fs)
  rw [kvs_pairUp fs h] at h1
  omega
/-- The pairs of one body. -/
def bodyPairs (b : List UInt8) : Option (List PR) :=
  match unpackL b with
  | none => none
  | some fs => if fs.length % 2 = 0 then some (pairUp (fs.map bs)) else none
theorem bodyPairs_none {b : List UInt8} (h : unpackL b = none) : bodyPairs b = none := by unfold bodyPairs; rw [h]
theorem bodyPairs_odd {b : List UInt8} {fs : List (List UInt8)} (h : unpackL b = some fs) (h2 : ¬ fs.length % 2 = 0) : bodyPairs b = none := by unfold bodyPairs; rw [h]; exact if_neg h2
theorem bodyPairs_some {b : List UInt8} {fs : List (List UInt8)} (h : unpackL b = some fs) (h2 : fs.length % 2 = 0) : bodyPairs b = some (pairUp (fs.map bs)) := by unfold bodyPairs; rw [h]; exact if_pos h2
def readAll : List (List UInt8) → Option (List PR)
  | [] => some []
  | b :: r => match bodyPairs b with
    | none => none
    | some a => (readAll r).map (a ++ ·)
theorem readAll_none {b : List UInt8} {r : List (List UInt8)} (h : bodyPairs b = none) : readAll (b :: r) = none := by simp [readAll, h]
theorem readAll_some {b : List UInt8} {r : List (List UInt8)} {a : List PR} (h : bodyPairs b = some a) : readAll (b :: r) = (readAll r).map (a ++ ·) := by simp [readAll, h]
theorem readAll_snoc {a : List PR} {b : List UInt8} {c : List PR} : ∀ {H : List (List UInt8)} , readAll H = some a → bodyPairs b = some c → readAll (H ++ [b]) = some (a ++ c)
  | [], h, hb => by
    injection h with h
    subst h
    show readAll [b] = _
    rw [readAll_some hb]
    simp [readAll]
  | x :: H, h, hb => by
    cases hx : bodyPairs x with
    | none => rw [readAll_none hx] at h; cases h
    | some y =>
      rw [readAll_some hx] at h
      obtain ⟨z, h1, h2⟩ := Option.map_eq_some_iff.1 h
      subst h2
      show readAll (x :: (H ++ [b])) = _
      rw [readAll_some hx, readAll_snoc h1 hb]
      simp
theorem readAll_bad {H R : List (List UInt8)} {b : List UInt8} (hb : bodyPairs b = none) : readAll (H ++ b :: R) = none := by
  induction H with
  | nil => exact readAll_none hb
  | cons x H ih =>
    cases hx : bodyPairs x with
    | none => exact readAll_none hx
    | some y => show readAll (x :: (H ++ b :: R)) = none; rw [readAll_some hx, ih]; rfl
/-- The pairs of all frames but the last. -/
def inB (l : List UInt8) : Option (List PR) :=
  if l.length < 8 ∨ 1048576 < l.length then none
  else if (scanAll (l.take (l.length - 8))).length = 0 then none
  else readAll (scanAll (l.take (l.length - 8))).dropLast
open Classical in
/-- What All tells. -/
noncomputable def allR (l : List UInt8) : Option (List PR) :=
  match inB l with
  | none => none
  | some L => if okTab L ∧ tabL L = l then some L else none

theorem body_pairs {L : List PR} (h : okBlk (kvs L)) : bodyPairs (packL (kvs L)) = some L := by
  have hu := unpack_pack h.1
  have hl : ((kvs L).map (·.data.toList)).length % 2 = 0 := by rw [List.length_map, kvs_len]; omega
  rw [bodyPairs_some hu hl, map_bs_data, pairUp_kvs]
theorem chunk_take (L : List PR) (k : Nat) : L.take (8 * k) ++ chunk L k = L.take (8 * (k + 1)) := by
  unfold chunk
  rw [show 8 * (k + 1) = 8 * k + 8 from by omega, List.take_add]
theorem read_bodies {L : List PR} {k : Nat} (h : okK L k) : readAll (bodiesK L k) = some (L.take (8 * k)) := by
  induction k with
  | zero => rfl
  | succ k ih => rw [← chunk_take]; exact readAll_snoc (ih (okK_mono h (by omega))) (body_pairs (h k (by omega)))
theorem take_all (L : List PR) : L.take (8 * nCh L) = L := List.take_of_length_le (by unfold nCh; omega)
theorem inB_tab {L : List PR} (h : okTab L) : inB (tabL L) = some L := by
  have hl := tabL_len L
  unfold inB
  rw [if_neg (by have := h.2.2.2.2; omega), scan_tab h, if_neg (by unfold allB; rw [List.length_append]; simp)]
  unfold allB
  rw [List.dropLast_concat, read_bodies h.2.2.1, take_all]
theorem allR_tab {L : List PR} (h : okTab L) : allR (tabL L) = some L := by
  unfold allR
  rw [inB_tab h]
  exact if_pos ⟨h, rfl⟩
theorem allR_back {l : List UInt8} {L : List PR} (h : allR l = some L) : okTab L ∧ tabL L = l := by
  unfold allR at h
  cases hi : inB l with
  | none => rw [hi] at h; cases h
  | some M =>
    rw [hi] at h
    by_cases hk : okTab M ∧ tabL M = l
    · simp only [if_pos hk] at h
      injection h with h
      subst h
      exact hk
    · simp only [if_neg hk] at h
      cases h
theorem allR_none {l : List UInt8} (h : inB l = none) : allR l = none := by unfold allR; rw [h]
theorem allR_no {l : List UInt8} {L : List PR} (h : inB l = some L) (h2 : ¬ (okTab L ∧ tabL L = l)) : allR l = none := by unfold allR; rw [h]; exact if_neg h2
theorem allR_yes {l : List UInt8} {L : List PR} (h : inB l = some L) (h2 : okTab L ∧ tabL L = l) : allR l = some L := by unfold allR; rw [h]; exact if_pos h2
theorem allR_not {l : List UInt8} (h : ∀ L, okTab L → tabL L = l → False) : allR l = none := by
  cases hc : allR l with
  | none => rfl
  | some L => exact absurd (allR_back hc).2 (fun e => h L (allR_back hc).1 e)
theorem tab_inj {a b : List PR} (ha : okTab a) (hb : okTab b) (h : tabL a = tabL b) : a = b := by
  have h1 := inB_tab ha
  rw [h, inB_tab hb] at h1
  injection h1 with h1
  exact h1.symm
/-- Bytes whose frames don't reach up to the end are no table. -/
theorem allR_used {l : List UInt8} (h : bytesOf (scanAll (l.take (l.length - 8))) ≠ l.length - 8) : allR l = none := by
  apply allR_not
  intro L hL he
  subst he
  rw [scan_tab hL, tabL_len] at h
  omega
theorem allR_many {l : List UInt8} {M N : List PR} (h : inB l = some (M ++ N)) (h2 : 1024 < M.length) : allR l = none :=
  allR_no h (fun k => by have := k.1.1; rw [List.length_append] at this; omega)
theorem allR_rises {l : List UInt8} {L : List PR} (h : allR l = some L) : rises L := (allR_back h).1.2.1

/-! a byte changed -/
theorem first_app {a r : List UInt8} (h : 8 + rdS a ≤ a.length) : first (a ++ r) = first a := by
  have h4 : 8 ≤ a.length := by omega
  have e : rdS (a ++ r) = rdS a := by
    match a, h4 with
    | _ :: _ :: _ :: _ :: _, _ => rfl
  unfold first
  rw [e, if_neg (by rw [List.length_append]; omega), if_neg (by omega : ¬ a.length < 8)]
  by_cases hb : 65536 < rdS a ∨ a.length < 8 + rdS a
  · rw [if_pos hb, if_pos (by rw [List.length_append]; omega)]
  · rw [if_neg hb, if_neg (by rw [List.length_append]; omega)]
    have e1 : ((a ++ r).drop 8).take (rdS a) = (a.drop 8).take (rdS a) := by
      rw [List.drop_append_of_le_length h4, List.take_append_of_le_length (by rw [List.length_drop]; omega)]
    have e2 : (a ++ r).take 4 = a.take 4 := List.take_append_of_le_length (by omega)
    have e3 : rdS ((a ++ r).drop 4) = rdS (a.drop 4) := by
      match a, h4 with
      | _ :: _ :: _ :: _ :: _ :: _ :: _ :: _ :: _, _ => rfl
    rw [e1, e2, e3]
end Go.Proofs.YtnihnkcmmnlaaaaDoor
