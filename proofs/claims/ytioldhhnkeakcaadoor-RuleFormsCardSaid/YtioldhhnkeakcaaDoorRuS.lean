/- Plain mathematics of texts cut at a byte. No program in it. -/
import Derived.Test.YtioldhhnkeakcaaDoorStr
import Derived.Lib.SplitLaws
import Derived.Lib.Join
namespace Go.Proofs.YtioldhhnkeakcaaDoor.PV

/-- The pieces of a text between the bytes c. -/
def cutL (c : UInt8) (l : List UInt8) : List (List UInt8) := Lib.split l [c]
theorem idx_none {c : UInt8} {a : List UInt8} (h : c ∉ a) : Lib.index a [c] = -1 :=
  Lib.index_none fun _ _ => Bool.eq_false_iff.2 fun e => h (List.mem_of_getElem? (Lib.occAt_head rfl e))
theorem idx_at {c : UInt8} {a : List UInt8} (b : List UInt8) (h : c ∉ a) : Lib.index (a ++ c :: b) [c] = (a.length : Nat) := by
  refine Lib.index_first (by simp) ?_ fun j hj => Bool.eq_false_iff.2 fun e => ?_
  · rw [Lib.occAt_iff_take _ _ _ (by simp)]
    simp
  · have e2 := Lib.occAt_head rfl e
    rw [List.getElem?_append_left hj] at e2
    exact h (List.mem_of_getElem? e2)
theorem cut_one {c : UInt8} {a : List UInt8} (h : c ∉ a) : cutL c a = [a] := by
  unfold cutL Lib.split
  rw [Lib.count_miss (idx_none h)]
  rfl
theorem cut_more {c : UInt8} {a : List UInt8} (b : List UInt8) (h : c ∉ a) : cutL c (a ++ c :: b) = a :: cutL c b := by
  have hi := idx_at b h
  have hd : (a ++ c :: b).drop (a.length + 1) = b := by
    rw [← List.drop_drop, List.drop_left]; rfl
  unfold cutL Lib.split
  rw [Lib.count_hit (by simp) hi, show a.length + [c].length = a.length + 1 from rfl, hd, Nat.add_comm 1]
  simp only [Lib.splitK]
  rw [if_neg (by rw [hi]; simp), hi]
  simp [hd]
/-- The same over strings. -/
def pieces (c : UInt8) (s : ByteArray) : List ByteArray := Lib.splitB ⟨#[c]⟩ 0 (Lib.countB s ⟨#[c]⟩) s
theorem pieces_data (c : UInt8) (s : ByteArray) : (pieces c s).map (·.data.toList) = cutL c s.data.toList := by
  unfold pieces cutL Lib.split
  exact Lib.splitB_data _ _ _ _
theorem pieces_len (c : UInt8) (s : ByteArray) : (pieces c s).length = Lib.countB s ⟨#[c]⟩ + 1 := Lib.splitB_all ⟨#[c]⟩ (Nat.le_refl _) 0 _ s rfl
theorem of_data {L : List ByteArray} {M : List (List UInt8)} (h : L.map (·.data.toList) = M) : L = M.map (fun l => ⟨l.toArray⟩) := by
  rw [← h, List.map_map]
  conv => lhs; rw [← List.map_id L]
  refine List.map_congr_left fun s _ => ?_
  cases s with
  | mk d => simp
theorem pieces_eq (c : UInt8) (s : ByteArray) : pieces c s = (cutL c s.data.toList).map (fun l => ⟨l.toArray⟩) := of_data (pieces_data c s)
theorem pieces_size (c : UInt8) (s : ByteArray) : (pieces c s).length ≤ s.size + 1 := by
  rw [pieces_len]
  have := Lib.countB_le ⟨#[c]⟩ (Nat.le_refl _) s.size s (Nat.le_refl _)
  omega
theorem splitB_le (sep : ByteArray) (save : Nat) : ∀ (k : Nat) (s : ByteArray), ∀ x ∈ Lib.splitB sep save k s, x.size ≤ s.size
  | 0, s, x, hx => by rw [Lib.splitB_zero] at hx; rw [List.mem_singleton.1 hx]; exact Nat.le_refl _
  | k + 1, s, x, hx => by
    unfold Lib.splitB at hx
    split at hx
    · rw [List.mem_singleton.1 hx]; exact Nat.le_refl _
    · rcases List.mem_cons.1 hx with rfl | hx
      · rw [ByteArray.size_extract]; omega
      · have := splitB_le sep save k _ x hx
        rw [ByteArray.size_extract] at this
        omega
theorem pieces_le (c : UInt8) (s : ByteArray) : ∀ x ∈ pieces c s, x.size ≤ s.size := splitB_le _ _ _ _
/-- Lines, each with the byte behind it. -/
theorem cut_lines {c : UInt8} : ∀ {M : List (List UInt8)}, (∀ m ∈ M, c ∉ m) → cutL c (M.flatMap fun m => m ++ [c]) = M ++ [[]]
  | [], _ => cut_one (by simp)
  | m :: M, h => by
    rw [List.flatMap_cons, List.append_assoc, List.singleton_append, cut_more _ (h m (by simp)), cut_lines (fun x hx => h x (by simp [hx]))]
    rfl
/-- Words, with the byte between. -/
theorem cut_words {c : UInt8} : ∀ {M : List (List UInt8)} (m : List UInt8), (∀ x ∈ m :: M, c ∉ x) → cutL c (Lib.join (m :: M) [c]) = m :: M
  | [], m, h => by rw [Lib.join_one]; exact cut_one (h m (by simp))
  | x :: M, m, h => by
    have e : Lib.join (m :: x :: M) [c] = m ++ c :: Lib.join (x :: M) [c] := by
      rw [Lib.join_cons, Lib.join_cons]
      simp [Lib.joinTail]
    rw [e, cut_more _ (h m (by simp)), cut_words x (fun y hy => h y (List.mem_cons_of_mem _ hy))]
end Go.Proofs.YtioldhhnkeakcaaDoor.PV
