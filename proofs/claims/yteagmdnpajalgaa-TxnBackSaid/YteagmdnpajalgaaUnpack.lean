/- Walks: Unpack. -/
import Derived.Test.YteagmdnpajalgaaCodeF
import Derived.Test.YteagmdnpajalgaaPackSpec
namespace Go.Proofs.Yteagmdnpajalgaa
open Go.RowKit

def fieldF (l : List UInt8) : Option (List UInt8) :=
  if l.length < 4 then none
  else if 65536 < rdS l ∨ l.length < 4 + rdS l then none
  else some ((l.drop 4).take (rdS l))
theorem fieldF_len {l b : List UInt8} (h : fieldF l = some b) : 4 + b.length ≤ l.length ∧ b.length ≤ 65536 ∧ b.length = rdS l := by
  unfold fieldF at h
  split at h
  · cases h
  split at h
  · cases h
  · injection h with h
    rw [← h, List.length_take, List.length_drop]
    omega
def unpackN : Nat → List UInt8 → Option (List (List UInt8) × List UInt8)
  | 0, l => some ([], l)
  | k + 1, l => match fieldF l with
    | none => none
    | some f => match unpackN k (l.drop (4 + f.length)) with
      | none => none
      | some (fs, r) => some (f :: fs, r)
theorem unpackN_none {k : Nat} {l : List UInt8} (h : fieldF l = none) : unpackN (k + 1) l = none := by simp [unpackN, h]
theorem unpackN_some {k : Nat} {l f : List UInt8} (h : fieldF l = some f) : unpackN (k + 1) l = (unpackN k (l.drop (4 + f.length))).map fun p => (f :: p.1, p.2) := by
  simp only [unpackN, h]
  cases unpackN k (l.drop (4 + f.length)) with
  | none => rfl
  | some p => rfl
def wholeU : Option (List (List UInt8) × List UInt8) → Option (List (List UInt8))
  | some (fs, []) => some fs
  | _ => none
def unpackL (l : List UInt8) : Option (List (List UInt8)) :=
  if l.length < 4 ∨ 1048576 < l.length then none
  else if 4096 < rdS l then none
  else wholeU (unpackN (rdS l) (l.drop 4))
def RetUnpack (o : Option (List (List UInt8))) (w : World) (e : Ending) (w' : World) : Prop :=
  match o with
  | none => e = .returned (.tuple #[.slice none 0 0, .int .i64 3]) ∧ Gr w w'
  | some fs => ∃ v, e = .returned (.tuple #[v, .int .i64 0]) ∧ w'.ownsRow w.heap.size 9 1 v (fs.map bs).length ((fs.map bs).map Value.string) ∧ Gr w w'

set_option maxRecDepth 100000 in
theorem firstField_any (s : ByteArray) (hs : s.size ≤ maxLen) (w : World) :
    Calls Try.prog 43 #[.string s] w fun e w' => e = .returned (ffVal (fieldF s.data.toList)) ∧ Gr w w' := by
  have hsz : s.data.toList.length = s.size := (Lib.size_eq s).symm
  by_cases h4 : s.size < 4
  · have HF := Lib.hid (show fieldF s.data.toList = none from by unfold fieldF; rw [if_pos (by omega)])
    clear hsz
    unfold maxLen at hs
    go_enter Try.func43, Try.ntmps43
    go_wp2
    go_ret2
    exact ⟨by rw [HF.out]; rfl, Gr.refl _⟩
  have h1 := fun k => readShort_any s hs (by omega) (w.drewN k)
  obtain ⟨n, hn⟩ : ∃ n, n = rdS s.data.toList := ⟨_, rfl⟩
  have hnl : n < 4294967296 := by rw [hn]; exact rdS_lt _
  rw [← hn] at h1
  have H1 := Lib.hid h1
  have hs2 : s.size ≤ 9223372036854775807 := by unfold maxLen at hs; omega
  have i4 : (4 : Int) ≤ (s.size : Int) := by omega
  have hrz : (s.extract 4 s.size).size = s.size - 4 := by rw [ByteArray.size_extract]; omega
  by_cases hbig : 65536 < n
  · have HF := Lib.hid (show fieldF s.data.toList = none from by unfold fieldF; rw [if_neg (by omega), ← hn, if_pos (Or.inl hbig)])
    clear h1 hn hsz hs
    go_enter Try.func43, Try.ntmps43
    go_wp2_with fail
    go_quiet (with_reducible exact Calls.quiet_of (H1.out _))
    go_wp2
    go_ret2
    exact ⟨by rw [HF.out]; rfl, (Gr.refl _).drewN _⟩
  by_cases hfit : s.size < 4 + n
  · have HF := Lib.hid (show fieldF s.data.toList = none from by unfold fieldF; rw [if_neg (by omega), ← hn, if_pos (Or.inr (by omega))])
    clear h1 hn hsz hs
    go_enter Try.func43, Try.ntmps43
    go_wp2_with fail
    go_quiet (with_reducible exact Calls.quiet_of (H1.out _))
    go_wp2
    go_ret2
    exact ⟨by rw [HF.out]; rfl, (Gr.refl _).drewN _⟩
  have hb : ((s.extract 4 s.size).extract 0 n).data.toList = (s.data.toList.drop 4).take n := by
    rw [Lib.extract_data, extract_drop, List.drop_zero, Nat.sub_zero]
  have HF := Lib.hid (show ffVal (fieldF s.data.toList) = .tuple #[.string ((s.extract 4 s.size).extract 0 n), .bool true] from by
    have : fieldF s.data.toList = some ((s.data.toList.drop 4).take n) := by unfold fieldF; rw [if_neg (by omega), ← hn, if_neg (by omega)]
    rw [this, ← hb]; unfold ffVal; simp only []; rw [bs_data])
  have hn4 : 4 + n ≤ s.size := by omega
  have hn6 : n ≤ 65536 := by omega
  clear h1 hn hsz hs hb
  go_enter Try.func43, Try.ntmps43
  go_wp2_with fail
  go_quiet (with_reducible exact Calls.quiet_of (H1.out _))
  go_wp2
  go_ret2
  exact ⟨by rw [HF.out]; rfl, (Gr.refl _).drewN _⟩

/-- Behind some fields. -/
def UnpackRel (cnt : Nat) (l : List UInt8) (w : World) (k : Nat) (rest : List UInt8) (v : Value) (wr : World) : Prop :=
  ∃ F : List (List UInt8), F.length = k ∧ wr.ownsRow w.heap.size 9 1 v (F.map bs).length ((F.map bs).map Value.string) ∧ Gr w wr ∧
    unpackN cnt l = (unpackN (cnt - k) rest).map fun p => (F ++ p.1, p.2)
theorem rel_none {cnt k : Nat} {l rest : List UInt8} {F : List (List UInt8)} (hk : k < cnt) (h : unpackN cnt l = (unpackN (cnt - k) rest).map fun p => (F ++ p.1, p.2)) (hf : fieldF rest = none) : unpackN cnt l = none := by
  rw [h, show cnt - k = (cnt - (k + 1)) + 1 from by omega, unpackN_none hf]; rfl
theorem rel_some {cnt k : Nat} {l rest f : List UInt8} {F : List (List UInt8)} (hk : k < cnt) (h : unpackN cnt l = (unpackN (cnt - k) rest).map fun p => (F ++ p.1, p.2)) (hf : fieldF rest = some f) :
    unpackN cnt l = (unpackN (cnt - (k + 1)) (rest.drop (4 + f.length))).map fun p => ((F ++ [f]) ++ p.1, p.2) := by
  rw [h, show cnt - k = (cnt - (k + 1)) + 1 from by omega, unpackN_some hf, Option.map_map]
  congr 1
  funext p
  simp
theorem rel_end {cnt k : Nat} {l rest : List UInt8} {F : List (List UInt8)} (hk : k = cnt) (h : unpackN cnt l = (unpackN (cnt - k) rest).map fun p => (F ++ p.1, p.2)) : unpackN cnt l = some (F, rest) := by
  rw [h, hk, Nat.sub_self]; simp [unpackN]
end Go.Proofs.Yteagmdnpajalgaa
