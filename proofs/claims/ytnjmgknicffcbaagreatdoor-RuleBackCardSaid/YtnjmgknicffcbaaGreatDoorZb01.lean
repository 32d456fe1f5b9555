/- What every law's proof needs: memory that only grows; the last step of a law whose call answers true and leaves all that was there; the world of the witness. When two strings are equal. It names no program. Plain mathematics of texts cut at a byte. No program in it. -/
import Derived.Test.YtnjmgknicffcbaaGreatDoorCards
import Derived.Test.YtnjmgknicffcbaaGreatDoorTie
import Derived.Test.YtnjmgknicffcbaaGreatDoorRows
import Derived.WalkKit
import Derived.ProofKit
import Derived.OpenShut
import Derived.Deep.DeepHandedRow
import Derived.Lib.LaidTab
import Derived.Deep.Draws
import GoSem.Op.String
import Derived.Laws.Strings
import Derived.Lib.SplitLaws
import Derived.Lib.Join
namespace Go.Proofs.YtnjmgknicffcbaaGreatDoor
open Go.ChangeShapes Go.WideShapes Go.RowKit

/-- Nothing that was there has changed. -/
def Gr (w w' : World) : Prop := Below w.heap.size w w'
theorem Gr.refl (w : World) : Gr w w := Below.refl _ _
theorem Gr.trans {a b c : World} (h : Gr a b) (k : Gr b c) : Gr a c := Below.trans h (Below.mono k h.size)
theorem Gr.alloc {a b : World} (h : Gr a b) (o : Obj) : Gr a (b.alloc o) := Below.alloc h h.size o
theorem Gr.drew {a b : World} (h : Gr a b) : Gr a b.drew := Below.drew h
theorem Gr.drewN {a b : World} (h : Gr a b) (n : Nat) : Gr a (b.drewN n) := ⟨h.os, h.tape, h.output, h.size, h.block⟩
theorem Gr.cell {a b : World} (h : Gr a b) {p : Addr} {v : Value} (hp : a.cell? p = some v) : b.cell? p = some v := by
  by_cases hb : p.block < a.heap.size
  · rw [Below.cell h hb]; exact hp
  · have hn : a.heap[p.block]? = none := by simp; omega
    unfold World.cell? at hp
    rw [hn] at hp
    simp at hp

section
variable {H : Type} {enc : TypeId × Value → H} {P : Program}

theorem allStay (hl : laidOutB P = true) {W W' : World} (hb : Below W.heap.size W W') {sp : Nat → Bool} :
    ∀ {ts : List TypeId} {vs : List Value} {ds : List (DataW H)} {ps : List MemPlace}, ts.all (fun t => P.readableRec t && decide (t < P.types.size)) = true →
      DataW.TrodAll enc P W 0 (fun _ => true) true ts vs ds ps → (∀ p ∈ ps, p.block < W.heap.size) → (∀ p ∈ ps, sp p.block = true) → DataW.TrodAll enc P W' 0 sp true ts vs ds ps
  | [], vs, ds, ps, _, h, _, _ => by
    obtain ⟨rfl, rfl, rfl⟩ := trodAll_nil h
    exact trodAll_mk0
  | t :: ts, vs, ds, ps, ht, h, hlt, hs => by
    obtain ⟨v, vs', d, ds', p, q, rfl, rfl, rfl, h1, h2⟩ := trodAll_cons h
    simp only [List.all_cons, Bool.and_eq_true, decide_eq_true_eq] at ht
    exact trodAll_cons_mk (WideElems.Trod_stays hl ht.1.1 ht.1.2 h1 (fun x hx => hb.same (hlt x (by simp [hx]))) (fun x hx => hs x (by simp [hx])))
      (allStay hl hb ht.2 h2 (fun x hx => hlt x (by simp [hx])) (fun x hx => hs x (by simp [hx])))

/-- THE LAST STEP OF A LAW: it answers true, and nothing that was there has changed. -/
theorem lawPost {f : Func} {s : ChangeSpec} {apart fresh handsOn again : Bool} {W W' : World} {args : Array Value} {ds gs : List (DataW H)} {before : List MemPlace} {tb : TypeId}
    (hl : laidOutB P = true) (hr : f.params.toList.all (fun t => P.readableRec t && decide (t < P.types.size)) = true)
    (hW : DataW.Whole enc P f.params.toList s.vars apart W args.toList ds gs before) (hv : s.vars = [])
    (hfn : s.fn H ds = { results := [.lit (.bool true)], args := ds }) (hrt : f.resultTypes = #[tb]) (ht : P.underlying tb = some .bool) (hb : Gr W W') :
    s.post enc P f apart fresh handsOn again W args (.bool true) W' := by
  have hlt : ∀ p ∈ before, p.block < W.heap.size := fun p hp => hW.lt p hp
  have hWk := hW
  obtain ⟨p, q, hA, hV, hpq, hz, hn⟩ := hW
  rw [hv] at hV
  obtain ⟨rfl, rfl⟩ := trodVars_none hV
  rw [List.append_nil] at hpq
  subst hpq
  have hf : s.fn H (ds ++ []) = { results := [.lit (.bool true)], args := ds } := by rw [List.append_nil]; exact hfn
  have hres : ∀ (b : Nat) (sp : Nat → Bool) (hd : Bool), DataW.TrodAll enc P W' b sp hd f.resultTypes.toList ((Value.bool true).resultList f.resultTypes.size) (s.fn H (ds ++ [])).results [] := by
    intro b sp hd
    rw [hf, hrt]
    exact trodAll_mk1 (shut_bool ht true)
  have hargs : ∀ sp : Nat → Bool, (∀ x ∈ before, sp x.block = true) → DataW.TrodAll enc P W' 0 sp true f.params.toList args.toList (s.fn H (ds ++ [])).args before := by
    intro sp hs
    rw [hf]
    exact allStay hl hb hr hA hlt hs
  have hvars : ∀ sp : Nat → Bool, DataW.TrodVars enc P W' sp s.vars (s.fn H (ds ++ [])).vars [] := by
    intro sp
    rw [hf, hv]
    rfl
  have hold : ∀ x ∈ before, (fun b => decide (b < W.heap.size)) x.block = true := fun x hx => by simpa using hlt x hx
  refine ⟨ds, [], before, [], before, [], hWk, hres _ _ _, hargs _ hold, hvars _, World.keptBut_mono (fun x hx => ⟨hx, Or.inr (Or.inl hx)⟩) (Below.frame hb (· ∈ before)), fun _ => ?_⟩
  refine ⟨ok_one hrt rfl (okWide_bool_mk ht true), _, _, ([] ++ before) ++ [], ⟨[] ++ before, [], trodAll_append (hargs _ (fun _ _ => rfl)) (hres _ _ _), hvars _, rfl, ?_, ?_⟩, ?_⟩
  · intro b off hp
    have hin : MemPlace.cell b off ∈ before := by simpa using hp
    rw [Below.frozen hb (hlt _ hin)]
    exact hz b off hin
  · intro ha
    simpa using hn ha
  · intro x hx _
    simpa using hx
end

theorem own : ownKnob Tryz.prog.godebug = none := by kernel_rfl
theorem laidOut : laidOutB Tryz.prog = true := by kernel_rfl
end Go.Proofs.YtnjmgknicffcbaaGreatDoor
namespace Go.Proofs.YtnjmgknicffcbaaGreatDoor

def eqS (x y : ByteArray) : Bool := x.toList == y.toList
theorem eqS_iff {x y : ByteArray} : eqS x y = true ↔ x = y := by
  unfold eqS
  rw [beq_iff_eq]
  refine ⟨fun h => ?_, fun h => by rw [h]⟩
  rw [ByteArray.toList_eq, ByteArray.toList_eq] at h
  exact ByteArray.ext (Array.toList_inj.1 h)
theorem eqS_self (x : ByteArray) : eqS x x = true := eqS_iff.2 rfl

end Go.Proofs.YtnjmgknicffcbaaGreatDoor
namespace Go.Proofs.YtnjmgknicffcbaaGreatDoor.PV

/-- The pieces of a text between the bytes c. -/
def cutL (c : UInt8) (l : List UInt8) : List (List UInt8) := Lib.split l [c]
theorem idx_none {c : UInt8} {a : List UInt8} (h : c ∉ a) : Lib.index a [c] = -1 :=
  Lib.index_none fun _ _ => Bool.eq_false_iff.2 fun e => h (List.mem_of_getElem? (Lib.occAt_head rfl e))
theorem idx_at {c : UInt8} {a : List UInt8} (b : List UInt8) (h : c ∉ a) : Lib.index (a ++ c :: b) [c] = (a.length : Nat) := by
  refine Lib.index_first (by simp) ?_ fun j hj => Bool.eq_false_iff.2 fun e => ?_
  · rw [Lib.occAt_iff_take _ _ _ (by simp)]
    simp
  · have e2 := Lib.occAt_head rfl e
    rw [List.getElem?_append_left hj] at e2
    exact h (List.mem_of_getElem? e2)
theorem cut_one {c : UInt8} {a : List UInt8} (h : c ∉ a) : cutL c a = [a] := by
  unfold cutL Lib.split
  rw [Lib.count_miss (idx_none h)]
  rfl
theorem cut_more {c : UInt8} {a : List UInt8} (b : List UInt8) (h : c ∉ a) : cutL c (a ++ c :: b) = a :: cutL c b := by
  have hi := idx_at b h
  have hd : (a ++ c :: b).drop (a.length + 1) = b := by
    rw [← List.drop_drop, List.drop_left]; rfl
  unfold cutL Lib.split
  rw [Lib.count_hit (by simp) hi, show a.length + [c].length = a.length + 1 from rfl, hd, Nat.add_comm 1]
  simp only [Lib.splitK]
  rw [if_neg (by rw [hi]; simp), hi]
  simp [hd]
/-- The same over strings. -/
def pieces (c : UInt8) (s : ByteArray) : List ByteArray := Lib.splitB ⟨#[c]⟩ 0 (Lib.countB s ⟨#[c]⟩) s
theorem pieces_data (c : UInt8) (s : ByteArray) : (pieces c s).map (·.data.toList) = cutL c s.data.toList := by
  unfold pieces cutL Lib.split
  exact Lib.splitB_data _ _ _ _
theorem pieces_len (c : UInt8) (s : ByteArray) : (pieces c s).length = Lib.countB s ⟨#[c]⟩ + 1 := Lib.splitB_all ⟨#[c]⟩ (Nat.le_refl _) 0 _ s rfl
theorem of_data {L : List ByteArray} {M : List (List UInt8)} (h : L.map (·.data.toList) = M) : L = M.map (fun l => ⟨l.toArray⟩) := by
  rw [← h, List.map_map]
  conv => lhs; rw [← List.map_id L]
  refine List.map_congr_left fun s _ => ?_
  cases s with
  | mk d => simp
theorem pieces_eq (c : UInt8) (s : ByteArray) : pieces c s = (cutL c s.data.toList).map (fun l => ⟨l.toArray⟩) := of_data (pieces_data c s)
theorem pieces_size (c : UInt8) (s : ByteArray) : (pieces c s).length ≤ s.size + 1 := by
  rw [pieces_len]
  have := Lib.countB_le ⟨#[c]⟩ (Nat.le_refl _) s.size s (Nat.le_refl _)
  omega
theorem splitB_le (sep : ByteArray) (save : Nat) : ∀ (k : Nat) (s : ByteArray), ∀ x ∈ Lib.splitB sep save k s, x.size ≤ s.size
  | 0, s, x, hx => by rw [Lib.splitB_zero] at hx; rw [List.mem_singleton.1 hx]; exact Nat.le_refl _
  | k + 1, s, x, hx => by
    unfold Lib.splitB at hx
    split at hx
    · rw [List.mem_singleton.1 hx]; exact Nat.le_refl _
    · rcases List.mem_cons.1 hx with rfl | hx
      · rw [ByteArray.size_extract]; omega
      · have := splitB_le sep save k _ x hx
        rw [ByteArray.size_extract] at this
        omega
theorem pieces_le (c : UInt8) (s : ByteArray) : ∀ x ∈ pieces c s, x.size ≤ s.size := splitB_le _ _ _ _
/-- Lines, each with the byte behind it. -/
theorem cut_lines {c : UInt8} : ∀ {M : List (List UInt8)}, (∀ m ∈ M, c ∉ m) → cutL c (M.flatMap fun m => m ++ [c]) = M ++ [[]]
  | [], _ => cut_one (by simp)
  | m :: M, h => by
    rw [List.flatMap_cons, List.append_assoc, List.singleton_append, cut_more _ (h m (by simp)), cut_lines (fun x hx => h x (by simp [hx]))]
    rfl
/-- Words, with the byte between. -/
theorem cut_words {c : UInt8} : ∀ {M : List (List UInt8)} (m : List UInt8), (∀ x ∈ m :: M, c ∉ x) → cutL c (Lib.join (m :: M) [c]) = m :: M
  | [], m, h => by rw [Lib.join_one]; exact cut_one (h m (by simp))
  | x :: M, m, h => by
    have e : Lib.join (m :: x :: M) [c] = m ++ c :: Lib.join (x :: M) [c] := by
      rw [Lib.join_cons, Lib.join_cons]
      simp [Lib.joinTail]
    rw [e, cut_more _ (h m (by simp)), cut_words x (fun y hy => h y (List.mem_cons_of_mem _ hy))]
end Go.Proofs.YtnjmgknicffcbaaGreatDoor.PV
