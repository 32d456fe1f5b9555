/- Plain mathematics of frames one behind the other, torn frames. Plain mathematics: what was packed is unpacked, and what is unpacked was packed so. Plain mathematics of tables: blocks, an index, an end; what is built is read again, and what is read was built so. Rows of strings that the call owns; append onto them. A row of strings of the call's own: append in a region that draws its order; a pair of strings written out. -/
import Derived.Test.YtlnhbndghnkfmaaGreatDoorZm05
import Derived.Test.YtlnhbndghnkfmaaGreatDoorZm06
namespace Go.Proofs.YtlnhbndghnkfmaaGreatDoor

theorem be4_bytes (n : Nat) (hn : n < 4294967296) (rest : List UInt8) : rdS (be4 n ++ rest) = n := by
  simp only [be4, rdS, rd4, List.cons_append, UInt8.toNat_ofNat']
  omega
theorem be4_len (n : Nat) : (be4 n).length = 4 := rfl
def sumF (b : List UInt8) : List UInt8 := be4 (Crc.sum (be4 b.length ++ b))
def frameL (b : List UInt8) : List UInt8 := be4 b.length ++ (sumF b ++ b)
theorem frameL_len (b : List UInt8) : (frameL b).length = 8 + b.length := by
  unfold frameL sumF; rw [List.length_append, List.length_append, be4_len, be4_len]; omega
theorem frameB_data (s : ByteArray) : (frameB s).data.toList = frameL s.data.toList := by
  unfold frameB frameL sumF
  rw [append_data, append_data, ← Lib.size_eq, List.append_assoc]
  rfl
theorem drop4_be4 (n : Nat) (r : List UInt8) : (be4 n ++ r).drop 4 = r := rfl
theorem take4_be4 (n : Nat) (r : List UInt8) : (be4 n ++ r).take 4 = be4 n := rfl
theorem first_frame (b rest : List UInt8) (hb : b.length ≤ 65536) : first (frameL b ++ rest) = some b := by
  have hl := frameL_len b
  have h0 : rdS (frameL b ++ rest) = b.length := by
    unfold frameL; rw [List.append_assoc]; exact be4_bytes _ (by omega) _
  have h4 : (frameL b ++ rest).drop 4 = sumF b ++ (b ++ rest) := by
    unfold frameL; rw [List.append_assoc, drop4_be4, List.append_assoc]
  have h8 : (frameL b ++ rest).drop 8 = b ++ rest := by
    rw [show 8 = 4 + 4 from rfl, ← List.drop_drop, h4]; rfl
  have t4 : (frameL b ++ rest).take 4 = be4 b.length := by
    unfold frameL; rw [List.append_assoc, take4_be4]
  have tb : (b ++ rest).take b.length = b := List.take_left
  unfold first
  rw [h0, h4, h8, t4, tb, if_neg (by rw [List.length_append]; omega), if_neg (by rw [List.length_append]; omega)]
  exact if_pos (be4_bytes _ (Crc.sum_lt _) _)
def joinL : List (List UInt8) → List UInt8
  | [] => []
  | b :: r => frameL b ++ joinL r
theorem joinL_len (H : List (List UInt8)) : (joinL H).length = bytesOf H := by
  induction H with
  | nil => rfl
  | cons b r ih => simp only [joinL, bytesOf, List.length_append, frameL_len, ih]
theorem joinL_snoc (H : List (List UInt8)) (b : List UInt8) : joinL (H ++ [b]) = joinL H ++ frameL b := by
  induction H with
  | nil => simp [joinL]
  | cons x r ih => simp only [List.cons_append, joinL, ih, List.append_assoc]
theorem scan_join (rest : List UInt8) : ∀ H : List (List UInt8), (∀ b ∈ H, b.length ≤ 65536) → scanAll (joinL H ++ rest) = H ++ scanAll rest
  | [], _ => rfl
  | b :: H, h => by
    have hb := h b (by simp)
    show scanAll (frameL b ++ joinL H ++ rest) = b :: (H ++ scanAll rest)
    rw [List.append_assoc, scanAll_some (first_frame b _ hb), ← frameL_len b, List.drop_left, scan_join rest H (fun x hx => h x (by simp [hx]))]
end Go.Proofs.YtlnhbndghnkfmaaGreatDoor
namespace Go.Proofs.YtlnhbndghnkfmaaGreatDoor

theorem be4_rd (l : List UInt8) (h : 4 ≤ l.length) : l = be4 (rdS l) ++ l.drop 4 := by
  match l, h with
  | a :: b :: c :: d :: t, _ =>
    have ha := a.toNat_lt; have hb := b.toNat_lt; have hc := c.toNat_lt; have hd := d.toNat_lt
    have e : be4 (rd4 a b c d) = [a, b, c, d] := by
      unfold be4 rd4
      congr 1
      · apply UInt8.toNat_inj.1; rw [UInt8.toNat_ofNat']; omega
      congr 1
      · apply UInt8.toNat_inj.1; rw [UInt8.toNat_ofNat']; omega
      congr 1
      · apply UInt8.toNat_inj.1; rw [UInt8.toNat_ofNat']; omega
      congr 1
      · apply UInt8.toNat_inj.1; rw [UInt8.toNat_ofNat']; omega
    show a :: b :: c :: d :: t = be4 (rd4 a b c d) ++ t
    rw [e]; rfl
theorem field_of (d r : List UInt8) (h : d.length ≤ 65536) : fieldF (be4 d.length ++ (d ++ r)) = some d := by
  have h0 := be4_bytes d.length (by omega) (d ++ r)
  unfold fieldF
  rw [h0, if_neg (by rw [List.length_append, be4_len]; omega), if_neg (by rw [List.length_append, List.length_append, be4_len]; omega), drop4_be4, List.take_left]
theorem unpack_flat (r : List UInt8) : ∀ L : List ByteArray, (∀ s ∈ L, s.size ≤ 65536) → unpackN L.length (flat L ++ r) = some (L.map (·.data.toList), r)
  | [], _ => rfl
  | s :: L, h => by
    have hs : s.data.toList.length ≤ 65536 := by rw [← Lib.size_eq]; exact h s (by simp)
    have e : flat (s :: L) ++ r = be4 s.data.toList.length ++ (s.data.toList ++ (flat L ++ r)) := by
      simp only [flat, List.append_assoc]
      rw [← Lib.size_eq]
    rw [e, List.length_cons, unpackN_some (field_of _ _ hs), ← be4_len s.data.toList.length, ← List.drop_drop, List.drop_left, List.drop_left, unpack_flat r L (fun x hx => h x (by simp [hx]))]
    rfl
theorem unpack_pack {L : List ByteArray} (h : okPack L) : unpackL (packL L) = some (L.map (·.data.toList)) := by
  have hl := packL_length L
  have h0 : rdS (packL L) = L.length := be4_bytes _ (by have := h.1; omega) _
  have hd : (packL L).drop 4 = flat L ++ [] := by rw [List.append_nil]; exact drop4_be4 _ _
  unfold unpackL
  rw [if_neg (by have := h.2.2; omega), h0, if_neg (by have := h.1; omega), hd, unpack_flat [] L h.2.1]
  rfl
theorem unpackN_back : ∀ (k : Nat) (l : List UInt8) (fs : List (List UInt8)) (r : List UInt8), unpackN k l = some (fs, r) → l = flat (fs.map bs) ++ r ∧ fs.length = k ∧ ∀ f ∈ fs, f.length ≤ 65536
  | 0, l, fs, r, h => by
    injection h with h; injection h with h1 h2
    subst h1 h2
    exact ⟨rfl, rfl, fun f hf => by cases hf⟩
  | k + 1, l, fs, r, h => by
    cases hf : fieldF l with
    | none => rw [unpackN_none hf] at h; cases h
    | some f =>
      rw [unpackN_some hf] at h
      obtain ⟨⟨fs', r'⟩, h1, h2⟩ := Option.map_eq_some_iff.1 h
      injection h2 with h3 h4
      subst h3 h4
      obtain ⟨i1, i2, i3⟩ := unpackN_back k _ _ _ h1
      have hfl := fieldF_len hf
      refine ⟨?_, by simp [i2], fun x hx => ?_⟩
      · have e1 := be4_rd l (by omega)
        have e2 : l.drop 4 = f ++ l.drop (4 + f.length) := by
          have : f = (l.drop 4).take f.length := by
            unfold fieldF at hf
            split at hf
            · cases hf
            split at hf
            · cases hf
            · injection hf with hf
              rw [hfl.2.2]; exact hf.symm
          conv => lhs; rw [← List.take_append_drop f.length (l.drop 4), ← this, List.drop_drop]
        rw [i1] at e2
        conv => lhs; rw [e1, e2, ← hfl.2.2]
        simp only [List.map_cons, flat, bs_size, List.append_assoc]
        rfl
      · rcases List.mem_cons.1 hx with rfl | hx
        · exact hfl.2.1
        · exact i3 x hx
theorem unpack_back {l : List UInt8} {fs : List (List UInt8)} (h : unpackL l = some fs) : okPack (fs.map bs) ∧ packL (fs.map bs) = l := by
  unfold unpackL at h
  split at h
  · cases h
  rename_i h1
  split at h
  · cases h
  rename_i h2
  have hu : unpackN (rdS l) (l.drop 4) = some (fs, []) := by
    revert h
    cases hh : unpackN (rdS l) (l.drop 4) with
    | none => intro h; cases h
    | some p =>
      obtain ⟨f, r⟩ := p
      cases r with
      | nil => intro h; injection h with h; rw [h]
      | cons x xs => intro h; cases h
  obtain ⟨i1, i2, i3⟩ := unpackN_back _ _ _ _ hu
  rw [List.append_nil] at i1
  have hp : packL (fs.map bs) = l := by
    unfold packL
    rw [List.length_map, i2, ← i1, ← be4_rd l (by omega)]
  refine ⟨⟨by rw [List.length_map, i2]; omega, fun s hs => ?_, ?_⟩, hp⟩
  · obtain ⟨f, hf, rfl⟩ := List.mem_map.1 hs
    rw [bs_size]; exact i3 f hf
  · rw [← packL_length, hp]; omega
theorem map_bs_data (L : List ByteArray) : (L.map (·.data.toList)).map bs = L := by
  rw [List.map_map]
  conv => rhs; rw [← List.map_id L]
  exact List.map_congr_left (fun s _ => bs_data s)
end Go.Proofs.YtlnhbndghnkfmaaGreatDoor
namespace Go.Proofs.YtlnhbndghnkfmaaGreatDoor
open Go.RowKit

/-- Keys and values, one behind the other. -/
def kvs (L : List PR) : List ByteArray := L.flatMap fun p => [p.key, p.val]
theorem kvs_cons (p : PR) (L : List PR) : kvs (p :: L) = p.key :: p.val :: kvs L := rfl
theorem kvs_append (a b : List PR) : kvs (a ++ b) = kvs a ++ kvs b := by unfold kvs; rw [List.flatMap_append]
theorem kvs_len (L : List PR) : (kvs L).length = 2 * L.length := by
  induction L with
  | nil => rfl
  | cons p L ih => rw [kvs_cons, List.length_cons, List.length_cons, ih, List.length_cons]; omega
/-- Fields that have a frame. -/
def okBlk (fs : List ByteArray) : Prop := okPack fs ∧ (packL fs).length ≤ 65536
def chunk (L : List PR) (k : Nat) : List PR := (L.drop (8 * k)).take 8
def nCh (L : List PR) : Nat := (L.length + 7) / 8
def bodyC (L : List PR) (k : Nat) : List UInt8 := packL (kvs (chunk L k))
/-- The strings of the first k blocks' frames. -/
def bodiesK (L : List PR) : Nat → List (List UInt8)
  | 0 => []
  | k + 1 => bodiesK L k ++ [bodyC L k]
def keyAt (L : List PR) (k : Nat) : ByteArray := (L[k]?.map PR.key).getD ⟨#[]⟩
/-- The fields of the index, of the first k blocks. -/
def idxK (L : List PR) : Nat → List ByteArray
  | 0 => []
  | k + 1 => idxK L k ++ [keyAt L (8 * k), bs (be8 (bytesOf (bodiesK L k)))]
def okK (L : List PR) (k : Nat) : Prop := ∀ j, j < k → okBlk (kvs (chunk L j))
def rises (L : List PR) : Prop := ∀ j (h : j + 1 < L.length), lessS L[j].key L[j + 1].key = true
def idxL (L : List PR) : List UInt8 := packL (idxK L (nCh L))
/-- All frames' strings: the blocks', the index'. -/
def allB (L : List PR) : List (List UInt8) := bodiesK L (nCh L) ++ [idxL L]
def tabL (L : List PR) : List UInt8 := joinL (allB L) ++ be8 (8 + (idxL L).length)
def okTab (L : List PR) : Prop := L.length ≤ 1024 ∧ rises L ∧ okK L (nCh L) ∧ okBlk (idxK L (nCh L)) ∧ (tabL L).length ≤ 1048576
open Classical in
noncomputable def buildR (L : List PR) : ByteArray × Nat :=
  if 1024 < L.length then (⟨#[]⟩, 2) else if rises L then (if okTab L then (bs (tabL L), 0) else (⟨#[]⟩, 2)) else (⟨#[]⟩, 1)
theorem buildR_long {L : List PR} (h : 1024 < L.length) : buildR L = (⟨#[]⟩, 2) := by unfold buildR; rw [if_pos h]
theorem buildR_arg {L : List PR} (h : ¬ 1024 < L.length) (h2 : ¬ rises L) : buildR L = (⟨#[]⟩, 1) := by unfold buildR; rw [if_neg h, if_neg h2]
theorem buildR_no {L : List PR} (h : ¬ 1024 < L.length) (h2 : rises L) (h3 : ¬ okTab L) : buildR L = (⟨#[]⟩, 2) := by unfold buildR; rw [if_neg h, if_pos h2, if_neg h3]
theorem buildR_ok {L : List PR} (h : okTab L) : buildR L = (bs (tabL L), 0) := by unfold buildR; rw [if_neg (by have := h.1; omega), if_pos h.2.1, if_pos h]
theorem buildR_bad {L : List PR} (h : ¬ okTab L) : (buildR L).1 = ⟨#[]⟩ ∧ ((buildR L).2 = 1 ∨ (buildR L).2 = 2) := by
  by_cases h1 : 1024 < L.length
  · rw [buildR_long h1]; exact ⟨rfl, .inr rfl⟩
  · by_cases h2 : rises L
    · rw [buildR_no h1 h2 h]; exact ⟨rfl, .inr rfl⟩
    · rw [buildR_arg h1 h2]; exact ⟨rfl, .inl rfl⟩
theorem buildR_zero {L : List PR} (h : (buildR L).2 = 0) : okTab L := by
  apply Classical.byContradiction
  intro hn
  rcases (buildR_bad hn).2 with k | k <;> omega

theorem bodiesK_len (L : List PR) (k : Nat) : (bodiesK L k).length = k := by
  induction k with
  | zero => rfl
  | succ k ih => show (bodiesK L k ++ [bodyC L k]).length = k + 1; rw [List.length_append, ih]; rfl
theorem idxK_len (L : List PR) (k : Nat) : (idxK L k).length = 2 * k := by
  induction k with
  | zero => rfl
  | succ k ih => show (idxK L k ++ [keyAt L (8 * k), bs (be8 (bytesOf (bodiesK L k)))]).length = 2 * (k + 1); rw [List.length_append, ih]; show 2 * k + 2 = _; omega
theorem bodiesK_ok {L : List PR} {k : Nat} (h : okK L k) : ∀ b ∈ bodiesK L k, b.length ≤ 65536 := by
  induction k with
  | zero => intro b hb; cases hb
  | succ k ih =>
    intro b hb
    rcases List.mem_append.1 hb with hb | hb
    · exact ih (fun j hj => h j (by omega)) b hb
    · rw [List.mem_singleton.1 hb]; exact (h k (by omega)).2
theorem bytes_bound (H : List (List UInt8)) (h : ∀ b ∈ H, b.length ≤ 65536) : bytesOf H ≤ H.length * 65544 := by
  induction H with
  | nil => exact Nat.zero_le _
  | cons b H ih =>
    have h1 := h b (by simp)
    have h2 := ih (fun x hx => h x (by simp [hx]))
    simp only [bytesOf, List.length_cons]
    omega
theorem bodiesK_bytes {L : List PR} {k : Nat} (h : okK L k) : bytesOf (bodiesK L k) ≤ k * 65544 := by
  have := bytes_bound _ (bodiesK_ok h)
  rwa [bodiesK_len] at this
theorem okK_mono {L : List PR} {j k : Nat} (h : okK L k) (hj : j ≤ k) : okK L j := fun i hi => h i (by omega)
theorem okK_succ {L : List PR} {k : Nat} (h : okK L k) (hk : okBlk (kvs (chunk L k))) : okK L (k + 1) := fun j hj => by
  rcases Nat.lt_or_ge j k with e | e
  · exact h j e
  · obtain rfl : j = k := by omega
    exact hk
theorem nCh_lt {L : List PR} {k : Nat} (h : 8 * k < L.length) : k < nCh L := by unfold nCh; omega
theorem nCh_end {L : List PR} {k : Nat} (h : 8 * k ≤ L.length + 7) (h2 : ¬ 8 * k < L.length) : k = nCh L := by unfold nCh; omega
theorem chunk_len (L : List PR) (k : Nat) : (chunk L k).length = min 8 (L.length - 8 * k) := by unfold chunk; rw [List.length_take, List.length_drop]
theorem allB_ok {L : List PR} (h : okTab L) : ∀ b ∈ allB L, b.length ≤ 65536 := by
  intro b hb
  rcases List.mem_append.1 hb with hb | hb
  · exact bodiesK_ok h.2.2.1 b hb
  · rw [List.mem_singleton.1 hb]; exact h.2.2.2.1.2
theorem be8_len (n : Nat) : (be8 n).length = 8 := rfl
theorem tabL_len (L : List PR) : (tabL L).length = bytesOf (allB L) + 8 := by unfold tabL; rw [List.length_append, joinL_len, be8_len]
theorem tabL_take (L : List PR) : (tabL L).take ((tabL L).length - 8) = joinL (allB L) := by
  rw [tabL_len, Nat.add_sub_cancel, ← joinL_len]
  unfold tabL
  rw [List.take_left]
theorem scan_all {H : List (List UInt8)} (h : ∀ b ∈ H, b.length ≤ 65536) : scanAll (joinL H) = H := by
  have := scan_join [] H h
  rw [List.append_nil] at this
  rw [this, scanAll_none (l := []) rfl, List.append_nil]
theorem scan_tab {L : List PR} (h : okTab L) : scanAll ((tabL L).take ((tabL L).length - 8)) = allB L := by rw [tabL_take, scan_all (allB_ok h)]

theorem frameB_bs (b : List UInt8) : frameB (bs b) = bs (frameL b) := by
  apply ByteArray.ext
  apply Array.toList_inj.1
  rw [frameB_data]
  rfl
theorem frameB_len (b : List UInt8) : (frameB (bs b)).size = 8 + b.length := by rw [frameB_bs, bs_size, frameL_len]
theorem key_at {L : List PR} {k : Nat} (h : k < L.length) : keyAt L k = L[k].key := by unfold keyAt; rw [List.getElem?_eq_getElem h]; rfl
theorem idx_succ {L : List PR} {k : Nat} (h : 8 * k < L.length) : idxK L (k + 1) = idxK L k ++ [L[8 * k].key, bs (be8 (bytesOf (bodiesK L k)))] := by
  show idxK L k ++ [keyAt L (8 * k), _] = _
  rw [key_at h]
def pairUp : List ByteArray → List PR
  | k :: v :: r => ⟨k, v⟩ :: pairUp r
  | _ => []
theorem pairUp_kvs (L : List PR) : pairUp (kvs L) = L := by
  induction L with
  | nil => rfl
  | cons p L ih => rw [kvs_cons]; show _ :: pairUp (kvs L) = _; rw [ih]
theorem kvs_pairUp : ∀ fs : List ByteArray, fs.length % 2 = 0 → kvs (pairUp fs) = fs
  | [], _ => rfl
  | [_], h => by simp at h
  | k :: v :: r, h => by
    show kvs (⟨k, v⟩ :: pairUp r) = _
    rw [kvs_cons, kvs_pairUp r (by simp only [List.length_cons] at h; omega)]
theorem pairUp_len (fs : List ByteArray) (h : fs.length % 2 = 0) : (pairUp fs).length = fs.length / 2 := by
  have h1 := kvs_len (pairUp fs)
  rw [kvs_pairUp fs h] at h1
  omega
/-- The pairs of one body. -/
def bodyPairs (b : List UInt8) : Option (List PR) :=
  match unpackL b with
  | none => none
  | some fs => if fs.length % 2 = 0 then some (pairUp (fs.map bs)) else none
theorem bodyPairs_none {b : List UInt8} (h : unpackL b = none) : bodyPairs b = none := by unfold bodyPairs; rw [h]
theorem bodyPairs_odd {b : List UInt8} {fs : List (List UInt8)} (h : unpackL b = some fs) (h2 : ¬ fs.length % 2 = 0) : bodyPairs b = none := by unfold bodyPairs; rw [h]; exact if_neg h2
theorem bodyPairs_some {b : List UInt8} {fs : List (List UInt8)} (h : unpackL b = some fs) (h2 : fs.length % 2 = 0) : bodyPairs b = some (pairUp (fs.map bs)) := by unfold bodyPairs; rw [h]; exact if_pos h2
def readAll : List (List UInt8) → Option (List PR)
  | [] => some []
  | b :: r => match bodyPairs b with
    | none => none
    | some a => (readAll r).map (a ++ ·)
theorem readAll_none {b : List UInt8} {r : List (List UInt8)} (h : bodyPairs b = none) : readAll (b :: r) = none := by simp [readAll, h]
theorem readAll_some {b : List UInt8} {r : List (List UInt8)} {a : List PR} (h : bodyPairs b = some a) : readAll (b :: r) = (readAll r).map (a ++ ·) := by simp [readAll, h]
theorem readAll_snoc {a : List PR} {b : List UInt8} {c : List PR} : ∀ {H : List (List UInt8)} , readAll H = some a → bodyPairs b = some c → readAll (H ++ [b]) = some (a ++ c)
  | [], h, hb => by
    injection h with h
    subst h
    show readAll [b] = _
    rw [readAll_some hb]
    simp [readAll]
  | x :: H, h, hb => by
    cases hx : bodyPairs x with
    | none => rw [readAll_none hx] at h; cases h
    | some y =>
      rw [readAll_some hx] at h
      obtain ⟨z, h1, h2⟩ := Option.map_eq_some_iff.1 h
      subst h2
      show readAll (x :: (H ++ [b])) = _
      rw [readAll_some hx, readAll_snoc h1 hb]
      simp
/-- The pairs of all frames but the last. -/
def inB (l : List UInt8) : Option (List PR) :=
  if l.length < 8 ∨ 1048576 < l.length then none
  else if (scanAll (l.take (l.length - 8))).length = 0 then none
  else readAll (scanAll (l.take (l.length - 8))).dropLast
open Classical in
/-- What All tells. -/
noncomputable def allR (l : List UInt8) : Option (List PR) :=
  match inB l with
  | none => none
  | some L => if okTab L ∧ tabL L = l then some L else none

theorem body_pairs {L : List PR} (h : okBlk (kvs L)) : bodyPairs (packL (kvs L)) = some L := by
  have hu := unpack_pack h.1
  have hl : ((kvs L).map (·.data.toList)).length % 2 = 0 := by rw [List.length_map, kvs_len]; omega
  rw [bodyPairs_some hu hl, map_bs_data, pairUp_kvs]
theorem chunk_take (L : List PR) (k : Nat) : L.take (8 * k) ++ chunk L k = L.take (8 * (k + 1)) := by
  unfold chunk
  rw [show 8 * (k + 1) = 8 * k + 8 from by omega, List.take_add]
theorem read_bodies {L : List PR} {k : Nat} (h : okK L k) : readAll (bodiesK L k) = some (L.take (8 * k)) := by
  induction k with
  | zero => rfl
  | succ k ih => rw [← chunk_take]; exact readAll_snoc (ih (okK_mono h (by omega))) (body_pairs (h k (by omega)))
theorem take_all (L : List PR) : L.take (8 * nCh L) = L := List.take_of_length_le (by unfold nCh; omega)
theorem inB_tab {L : List PR} (h : okTab L) : inB (tabL L) = some L := by
  have hl := tabL_len L
  unfold inB
  rw [if_neg (by have := h.2.2.2.2; omega), scan_tab h, if_neg (by unfold allB; rw [List.length_append]; simp)]
  unfold allB
  rw [List.dropLast_concat, read_bodies h.2.2.1, take_all]
theorem allR_tab {L : List PR} (h : okTab L) : allR (tabL L) = some L := by
  unfold allR
  rw [inB_tab h]
  exact if_pos ⟨h, rfl⟩
theorem allR_back {l : List UInt8} {L : List PR} (h : allR l = some L) : okTab L ∧ tabL L = l := by
  unfold allR at h
  cases hi : inB l with
  | none => rw [hi] at h; cases h
  | some M =>
    rw [hi] at h
    by_cases hk : okTab M ∧ tabL M = l
    · simp only [if_pos hk] at h
      injection h with h
      subst h
      exact hk
    · simp only [if_neg hk] at h
      cases h
theorem allR_none {l : List UInt8} (h : inB l = none) : allR l = none := by unfold allR; rw [h]
theorem allR_no {l : List UInt8} {L : List PR} (h : inB l = some L) (h2 : ¬ (okTab L ∧ tabL L = l)) : allR l = none := by unfold allR; rw [h]; exact if_neg h2
theorem allR_yes {l : List UInt8} {L : List PR} (h : inB l = some L) (h2 : okTab L ∧ tabL L = l) : allR l = some L := by unfold allR; rw [h]; exact if_pos h2
theorem allR_rises {l : List UInt8} {L : List PR} (h : allR l = some L) : rises L := (allR_back h).1.2.1

end Go.Proofs.YtlnhbndghnkfmaaGreatDoor
namespace Go.Proofs.YtlnhbndghnkfmaaGreatDoor
open Go.RowKit

/-- The call owns the slice v from block B on: it reads as these strings. -/
def SO (w : World) (B : Nat) (v : Value) (L : List ByteArray) : Prop := w.ownsRow B 9 1 v L.length (L.map Value.string)
theorem SO.gr {w w' : World} {B : Nat} {v : Value} {L : List ByteArray} (h : SO w B v L) (g : Gr w w') : SO w' B v L := own_gr h g
theorem SO.le {w : World} {B B' : Nat} {v : Value} {L : List ByteArray} (h : SO w B v L) (hb : B' ≤ B) : SO w B' v L := own_le h hb
theorem SO.nil (w : World) (B : Nat) : SO w B (.slice none 0 0) [] := World.ownsRow_nil w B _ _
theorem SO.sv {w : World} {B : Nat} {v : Value} {L : List ByteArray} (h : SO w B v L) : SV w v L := SV.of_own h
theorem strs_one (L : List ByteArray) : ∀ u ∈ L.map Value.string, u.oneCell' = true := by
  intro u hu
  obtain ⟨s, _, rfl⟩ := List.mem_map.1 hu
  rfl
theorem SV.sl {w : World} {v : Value} {L : List ByteArray} (h : SV w v L) : SL w 1 v L.length (L.map Value.string) := by
  obtain ⟨A, c, hv, h1, h2, h3⟩ := h
  refine ⟨A, c, hv, h1, h2, by rw [List.length_map, Nat.mul_one], fun j u hj => ?_⟩
  obtain ⟨hl, he⟩ := List.getElem?_eq_some_iff.1 hj
  rw [List.length_map] at hl
  obtain ⟨b, off, ha, hc⟩ := h3 j hl
  refine ⟨b, off, ha, ?_⟩
  rw [hc, ← he, List.getElem_map]
/-- append of strings to a row of the call's own. -/
theorem wpList_push_strs {W w0 : World} {ops : Array Oper} {rest : List Oper} {o : Oper} {a : Act} {Q : Exit → Act → World → Prop} (hgd : o.guard = none) (s x : Operand)
    (ho : o.op = .call { callee := .builtin .append, args := #[s, x], argTypes := #[28, 28] })
    (v vx : Value) (L M : List ByteArray) (hs : a.eval s = v) (hown : SO W w0.heap.size v L) (hx : a.eval x = vx) (hxv : SV W vx M) (hlen : (L.length + M.length) * 16 ≤ 140737488355328) (hg : Gr w0 W)
    (h : ∀ A' c' w', SO w' w0.heap.size (.slice A' (L.length + M.length) c') (L ++ M) → Gr w0 w' → W.grownBy w' v.ownBlock → wpList Tryz.prog ops Q rest (a.put o.dst (.slice A' (L.length + M.length) c')) w') :
    wpList Tryz.prog ops Q (o :: rest) a W := by
  obtain ⟨i0, hi, hz0, hz1, hz2⟩ := info_parts infoString
  have hsz := hg.size
  refine wpList_append_sl _ hgd s x 28 ho w0.heap.size 9 i0 _ 1 16 Tryz.underlying28 hi hz0 hz1 hz2 rfl (by decide) v L.length (L.map Value.string) hs hown vx M.length (M.map Value.string) hx
    hxv.sl (strs_one M) (by unfold maxLen; omega) hlen hsz (L.length + M.length) rfl ?_
  intro A' c' w' hown' hgr _
  refine h A' c' w' ?_ (gr_of_grown hg hown hgr hsz) hgr
  unfold SO
  rw [List.length_append, List.map_append]
  exact hown'

end Go.Proofs.YtlnhbndghnkfmaaGreatDoor
namespace Go.Proofs.YtlnhbndghnkfmaaGreatDoor
open Go.RowKit

theorem sv_two (w : World) (s t : ByteArray) : SV (w.alloc (.cells #[.string s, .string t] 9)) (.slice (some ⟨w.heap.size, 0, none⟩) 2 2) [s, t] := by
  refine ⟨_, 2, rfl, Nat.le_refl _, ⟨by decide, fun h => by cases h⟩, fun j hj => ⟨w.heap.size, 0, rfl, ?_⟩⟩
  match j, hj with
  | 0, _ => rw [World.cell?_alloc_mark]; rfl
  | 1, _ => rw [World.cell?_alloc_mark]; rfl
theorem sv_two_at (w : World) (s t : ByteArray) (b : Nat) (hb : b = w.heap.size) : SV (w.alloc (.cells #[.string s, .string t] 9)) (.slice (some ⟨b, 0, none⟩) 2 2) [s, t] := by subst hb; exact sv_two w s t
section
variable {ops : Array Oper} {o : Oper} {a : Act} {W w0 : World} {K : Act → World → Prop} {Q : Exit → Act → World → Prop} {E : Prop}
theorem wpList_push_n {rest : List Oper} {Q : Exit → Act → World → Prop} (hgd : o.guard = none) (s x : Operand)
    (ho : o.op = .call { callee := .builtin .append, args := #[s, x], argTypes := #[28, 28] })
    (v vx : Value) (L M : List ByteArray) (n m : Nat) (hn : n = L.length) (hm : m = M.length) (hs : a.eval s = v) (hown : SO W w0.heap.size v L) (hx : a.eval x = vx) (hxv : SV W vx M) (hlen : (n + m) * 16 ≤ 140737488355328) (hg : Gr w0 W)
    (h : ∀ A' c' w', SO w' w0.heap.size (.slice A' (n + m) c') (L ++ M) → Gr w0 w' → wpList Tryz.prog ops Q rest (a.put o.dst (.slice A' (n + m) c')) w') :
    wpList Tryz.prog ops Q (o :: rest) a W := by
  subst hn hm
  exact wpList_push_strs hgd s x ho v vx L M hs hown hx hxv hlen hg (fun A' c' w' h1 h2 _ => h A' c' w' h1 h2)
end
end Go.Proofs.YtlnhbndghnkfmaaGreatDoor
