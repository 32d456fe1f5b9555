/- What every law's proof needs: memory that only grows; the last step of a law whose call answers true and leaves all that was there; the world of the witness. When two strings are equal. It names no program. Plain mathematics of the stand-in disk: files, operations, crashes, names. It names no program. The library's Clone of a string, by the shelf's contract (proved once, over any program), at this program's numbers. Walk: strings.Clone answers the string. Walks: names, a string's copy, beginnings. Plain mathematics of the check sum of 32 bits: one step of a bit, four at a time by a table, and what a changed byte does. It imports nothing of the program. -/
import Derived.Test.YtlnhbndghnkfmaaGreatDoorCards
import Derived.Test.YtlnhbndghnkfmaaGreatDoorTie
import Derived.Test.YtlnhbndghnkfmaaGreatDoorRows
import Derived.WalkKit
import Derived.ProofKit
import Derived.OpenShut
import Derived.Deep.DeepHandedRow
import Derived.Lib.LaidTab
import Derived.Deep.Draws
import GoSem.Op.String
import Derived.Laws.Strings
import Derived.Test.YtlnhbndghnkfmaaGreatDoorChecked
import Derived.Shelf.Strconv.Clone
import Derived.Lib.Hide
import Derived.Lib.Strings
namespace Go.Proofs.YtlnhbndghnkfmaaGreatDoor
open Go.ChangeShapes Go.WideShapes Go.RowKit

/-- Nothing that was there has changed. -/
def Gr (w w' : World) : Prop := Below w.heap.size w w'
theorem Gr.refl (w : World) : Gr w w := Below.refl _ _
theorem Gr.trans {a b c : World} (h : Gr a b) (k : Gr b c) : Gr a c := Below.trans h (Below.mono k h.size)
theorem Gr.alloc {a b : World} (h : Gr a b) (o : Obj) : Gr a (b.alloc o) := Below.alloc h h.size o
theorem Gr.drew {a b : World} (h : Gr a b) : Gr a b.drew := Below.drew h
theorem Gr.drewN {a b : World} (h : Gr a b) (n : Nat) : Gr a (b.drewN n) := ⟨h.os, h.tape, h.output, h.size, h.block⟩
theorem Gr.cell {a b : World} (h : Gr a b) {p : Addr} {v : Value} (hp : a.cell? p = some v) : b.cell? p = some v := by
  by_cases hb : p.block < a.heap.size
  · rw [Below.cell h hb]; exact hp
  · have hn : a.heap[p.block]? = none := by simp; omega
    unfold World.cell? at hp
    rw [hn] at hp
    simp at hp

section
variable {H : Type} {enc : TypeId × Value → H} {P : Program}

theorem allStay (hl : laidOutB P = true) {W W' : World} (hb : Below W.heap.size W W') {sp : Nat → Bool} :
    ∀ {ts : List TypeId} {vs : List Value} {ds : List (DataW H)} {ps : List MemPlace}, ts.all (fun t => P.readableRec t && decide (t < P.types.size)) = true →
      DataW.TrodAll enc P W 0 (fun _ => true) true ts vs ds ps → (∀ p ∈ ps, p.block < W.heap.size) → (∀ p ∈ ps, sp p.block = true) → DataW.TrodAll enc P W' 0 sp true ts vs ds ps
  | [], vs, ds, ps, _, h, _, _ => by
    obtain ⟨rfl, rfl, rfl⟩ := trodAll_nil h
    exact trodAll_mk0
  | t :: ts, vs, ds, ps, ht, h, hlt, hs => by
    obtain ⟨v, vs', d, ds', p, q, rfl, rfl, rfl, h1, h2⟩ := trodAll_cons h
    simp only [List.all_cons, Bool.and_eq_true, decide_eq_true_eq] at ht
    exact trodAll_cons_mk (WideElems.Trod_stays hl ht.1.1 ht.1.2 h1 (fun x hx => hb.same (hlt x (by simp [hx]))) (fun x hx => hs x (by simp [hx])))
      (allStay hl hb ht.2 h2 (fun x hx => hlt x (by simp [hx])) (fun x hx => hs x (by simp [hx])))

/-- THE LAST STEP OF A LAW: it answers true, and nothing that was there has changed. -/
theorem lawPost {f : Func} {s : ChangeSpec} {apart fresh handsOn again : Bool} {W W' : World} {args : Array Value} {ds gs : List (DataW H)} {before : List MemPlace} {tb : TypeId}
    (hl : laidOutB P = true) (hr : f.params.toList.all (fun t => P.readableRec t && decide (t < P.types.size)) = true)
    (hW : DataW.Whole enc P f.params.toList s.vars apart W args.toList ds gs before) (hv : s.vars = [])
    (hfn : s.fn H ds = { results := [.lit (.bool true)], args := ds }) (hrt : f.resultTypes = #[tb]) (ht : P.underlying tb = some .bool) (hb : Gr W W') :
    s.post enc P f apart fresh handsOn again W args (.bool true) W' := by
  have hlt : ∀ p ∈ before, p.block < W.heap.size := fun p hp => hW.lt p hp
  have hWk := hW
  obtain ⟨p, q, hA, hV, hpq, hz, hn⟩ := hW
  rw [hv] at hV
  obtain ⟨rfl, rfl⟩ := trodVars_none hV
  rw [List.append_nil] at hpq
  subst hpq
  have hf : s.fn H (ds ++ []) = { results := [.lit (.bool true)], args := ds } := by rw [List.append_nil]; exact hfn
  have hres : ∀ (b : Nat) (sp : Nat → Bool) (hd : Bool), DataW.TrodAll enc P W' b sp hd f.resultTypes.toList ((Value.bool true).resultList f.resultTypes.size) (s.fn H (ds ++ [])).results [] := by
    intro b sp hd
    rw [hf, hrt]
    exact trodAll_mk1 (shut_bool ht true)
  have hargs : ∀ sp : Nat → Bool, (∀ x ∈ before, sp x.block = true) → DataW.TrodAll enc P W' 0 sp true f.params.toList args.toList (s.fn H (ds ++ [])).args before := by
    intro sp hs
    rw [hf]
    exact allStay hl hb hr hA hlt hs
  have hvars : ∀ sp : Nat → Bool, DataW.TrodVars enc P W' sp s.vars (s.fn H (ds ++ [])).vars [] := by
    intro sp
    rw [hf, hv]
    rfl
  have hold : ∀ x ∈ before, (fun b => decide (b < W.heap.size)) x.block = true := fun x hx => by simpa using hlt x hx
  refine ⟨ds, [], before, [], before, [], hWk, hres _ _ _, hargs _ hold, hvars _, World.keptBut_mono (fun x hx => ⟨hx, Or.inr (Or.inl hx)⟩) (Below.frame hb (· ∈ before)), fun _ => ?_⟩
  refine ⟨ok_one hrt rfl (okWide_bool_mk ht true), _, _, ([] ++ before) ++ [], ⟨[] ++ before, [], trodAll_append (hargs _ (fun _ _ => rfl)) (hres _ _ _), hvars _, rfl, ?_, ?_⟩, ?_⟩
  · intro b off hp
    have hin : MemPlace.cell b off ∈ before := by simpa using hp
    rw [Below.frozen hb (hlt _ hin)]
    exact hz b off hin
  · intro ha
    simpa using hn ha
  · intro x hx _
    simpa using hx
end

theorem own : ownKnob Tryz.prog.godebug = none := by kernel_rfl
theorem laidOut : laidOutB Tryz.prog = true := by kernel_rfl
theorem gHalves : Tryz.prog.globalNamed "levee/code.halves" = some 1 := by kernel_rfl
theorem gHalvesType : (Tryz.prog.globals[1]?).map (·.type) = some 214 := by kernel_rfl
theorem cellsHalves : Tryz.prog.cellsOf 214 = 16 := by kernel_rfl
theorem cellsU32 : Tryz.prog.cellsOf 117 = 1 := by kernel_rfl
end Go.Proofs.YtlnhbndghnkfmaaGreatDoor
namespace Go.Proofs.YtlnhbndghnkfmaaGreatDoor

def eqS (x y : ByteArray) : Bool := x.toList == y.toList
theorem eqS_iff {x y : ByteArray} : eqS x y = true ↔ x = y := by
  unfold eqS
  rw [beq_iff_eq]
  refine ⟨fun h => ?_, fun h => by rw [h]⟩
  rw [ByteArray.toList_eq, ByteArray.toList_eq] at h
  exact ByteArray.ext (Array.toList_inj.1 h)
theorem eqS_self (x : ByteArray) : eqS x x = true := eqS_iff.2 rfl

end Go.Proofs.YtlnhbndghnkfmaaGreatDoor
namespace Go.Proofs.YtlnhbndghnkfmaaGreatDoor

/-- A byte of a name. -/
def nbN (c : Nat) : Bool := decide ((97 ≤ c ∧ c ≤ 122) ∨ (48 ≤ c ∧ c ≤ 57) ∨ c = 46)
def nameL (l : List UInt8) : Bool := decide (1 ≤ l.length ∧ l.length ≤ 32) && l.all fun c => nbN c.toNat
def nameOk (s : ByteArray) : Bool := nameL s.data.toList

structure F where
  name : ByteArray
  kept : ByteArray
  loose : ByteArray
structure O where
  kind : Int
  name : ByteArray
  bytes : ByteArray
  at_ : Int

def F.size (f : F) : Nat := f.kept.size + f.loose.size
def lessS (x y : ByteArray) : Bool := Go.Op.bytesLess x.toList y.toList
/-- Where a file stands: as many as there are, if nowhere. -/
def findF (L : List F) (nm : ByteArray) : Nat := L.findIdx fun f => eqS f.name nm
/-- Where a new one goes. -/
def placeF (L : List F) (nm : ByteArray) : Nat := L.findIdx fun f => !lessS f.name nm
theorem placeF_le (L : List F) (nm : ByteArray) : placeF L nm ≤ L.length := List.findIdx_le_length
theorem findF_name {L : List F} {nm : ByteArray} (h : findF L nm < L.length) : L[findF L nm].name = nm := by
  have := List.findIdx_getElem (w := h)
  exact eqS_iff.1 this
theorem findF_before {L : List F} {nm : ByteArray} {j : Nat} (h : j < findF L nm) (hj : j < L.length) : L[j].name ≠ nm := by
  intro e
  have := List.not_of_lt_findIdx h
  rw [e] at this
  simp [eqS_self] at this
/-- The first of its kind. -/
theorem findF_eq {L : List F} {nm : ByteArray} {k : Nat} (hk : k < L.length) (h1 : L[k].name = nm) (h2 : ∀ j (_ : j < k), L[j].name ≠ nm) : findF L nm = k := by
  unfold findF
  rw [List.findIdx_eq hk]
  refine ⟨by rw [h1]; exact eqS_self _, fun j hj => ?_⟩
  rw [Bool.eq_false_iff]
  exact fun e => h2 j hj (eqS_iff.1 e)
theorem findF_none {L : List F} {nm : ByteArray} (h : ∀ j (_ : j < L.length), L[j].name ≠ nm) : findF L nm = L.length := by
  unfold findF
  rw [List.findIdx_eq_length]
  intro f hf
  obtain ⟨j, hj, rfl⟩ := List.mem_iff_getElem.1 hf
  rw [Bool.eq_false_iff]
  exact fun e => h j hj (eqS_iff.1 e)
theorem placeF_eq {L : List F} {nm : ByteArray} {k : Nat} (hk : k < L.length) (h1 : lessS L[k].name nm = false) (h2 : ∀ j (_ : j < k), lessS L[j].name nm = true) : placeF L nm = k := by
  unfold placeF
  rw [List.findIdx_eq hk]
  refine ⟨by rw [h1]; rfl, fun j hj => by rw [h2 j hj]; rfl⟩
theorem placeF_none {L : List F} {nm : ByteArray} (h : ∀ j (_ : j < L.length), lessS L[j].name nm = true) : placeF L nm = L.length := by
  unfold placeF
  rw [List.findIdx_eq_length]
  intro f hf
  obtain ⟨j, hj, rfl⟩ := List.mem_iff_getElem.1 hf
  rw [h j hj]; rfl

/-- One operation: the error's number (0: none), and the files behind it. -/
def stepAt (L : List F) (o : O) (i : Nat) : Nat × List F :=
  match L[i]? with
  | none =>
    if o.kind = 1 then
      if 64 ≤ L.length then (4, L)
      else if 1048576 < o.bytes.size then (2, L)
      else (0, L.insertIdx (placeF L o.name) ⟨o.name, ⟨#[]⟩, o.bytes⟩)
    else (30, L)
  | some f =>
    if o.kind = 1 then
      if 1048576 < f.size + o.bytes.size then (2, L)
      else (0, L.set i ⟨f.name, f.kept, f.loose ++ o.bytes⟩)
    else if o.kind = 2 then (0, L.set i ⟨f.name, f.kept ++ f.loose, ⟨#[]⟩⟩)
    else if o.kind = 3 then
      if o.at_ < 0 ∨ (f.size : Int) < o.at_ then (1, L)
      else (0, L.set i ⟨f.name, (f.kept ++ f.loose).extract 0 o.at_.toNat, ⟨#[]⟩⟩)
    else (0, L.eraseIdx i)
def badOp (o : O) : Prop := o.kind < 1 ∨ 4 < o.kind ∨ nameOk o.name = false
instance (o : O) : Decidable (badOp o) := inferInstanceAs (Decidable (_ ∨ _ ∨ _))
def step (L : List F) (o : O) : Nat × List F := if badOp o then (1, L) else stepAt L o (findF L o.name)

/-- The list, up to the first that is refused: the files, how many were done, the error's number. -/
def run : List F → List O → List F × Nat × Nat
  | L, [] => (L, 0, 0)
  | L, o :: r => if (step L o).1 = 0 then let x := run (step L o).2 r; (x.1, x.2.1 + 1, x.2.2) else (L, 0, (step L o).1)
def bump (k : Nat) (x : List F × Nat × Nat) : List F × Nat × Nat := (x.1, x.2.1 + k, x.2.2)
theorem run_ok {L : List F} {o : O} {r : List O} (h : (step L o).1 = 0) : run L (o :: r) = bump 1 (run (step L o).2 r) := by
  show (if (step L o).1 = 0 then _ else _) = _
  rw [if_pos h]; rfl
theorem run_no {L : List F} {o : O} {r : List O} (h : (step L o).1 ≠ 0) : run L (o :: r) = (L, 0, (step L o).1) := by
  show (if (step L o).1 = 0 then _ else _) = _
  rw [if_neg h]
theorem bump_bump (a b : Nat) (x : List F × Nat × Nat) : bump a (bump b x) = bump (b + a) x := by simp [bump, Nat.add_assoc]
theorem bump_zero (x : List F × Nat × Nat) : bump 0 x = x := rfl

/-- Sizes that a machine bears. -/
def FitF (f : F) : Prop := f.name.size ≤ 281474976710656 ∧ f.size ≤ 281474976710656
def Fit (L : List F) : Prop := ∀ f ∈ L, FitF f
theorem Fit.at_ {L : List F} (h : Fit L) {i : Nat} (hi : i < L.length) : FitF L[i] := h _ (List.getElem_mem hi)
theorem size_nil : (⟨#[]⟩ : ByteArray).size = 0 := rfl
theorem name_small {s : ByteArray} (h : nameOk s = true) : s.size ≤ 32 := by
  unfold nameOk nameL at h
  rw [Bool.and_eq_true] at h
  have := of_decide_eq_true h.1
  rw [Array.length_toList] at this
  exact this.2
theorem Fit.set {L : List F} (h : Fit L) (i : Nat) {f : F} (hf : FitF f) : Fit (L.set i f) := by
  intro g hg
  rcases List.mem_or_eq_of_mem_set hg with h1 | h1
  · exact h g h1
  · subst h1; exact hf
theorem step_fit {L : List F} {o : O} (h : Fit L) : Fit (step L o).2 := by
  unfold step
  split
  · exact h
  rename_i hb
  have hn : o.name.size ≤ 281474976710656 := by
    have : nameOk o.name = true := by
      rcases hq : nameOk o.name with _ | _
      · exact absurd (Or.inr (Or.inr hq)) hb
      · rfl
    have := name_small this
    omega
  unfold stepAt
  split
  · split
    · split
      · exact h
      · split
        · exact h
        · intro g hg
          rcases (List.mem_insertIdx (placeF_le _ _)).1 hg with h1 | h1
          · subst h1
            refine ⟨hn, ?_⟩
            show 0 + o.bytes.size ≤ _
            omega
          · exact h g h1
    · exact h
  · rename_i f hf
    have hm : FitF f := h f (List.mem_of_getElem? hf)
    unfold FitF F.size at hm
    split
    · split
      · exact h
      · rename_i hs
        refine h.set _ ⟨hm.1, ?_⟩
        unfold F.size at hs ⊢
        show f.kept.size + (f.loose ++ o.bytes).size ≤ _
        rw [ByteArray.size_append]
        omega
    · split
      · refine h.set _ ⟨hm.1, ?_⟩
        show (f.kept ++ f.loose).size + 0 ≤ _
        rw [ByteArray.size_append]
        omega
      · split
        · split
          · exact h
          · refine h.set _ ⟨hm.1, ?_⟩
            show ((f.kept ++ f.loose).extract 0 _).size + 0 ≤ _
            rw [ByteArray.size_extract, ByteArray.size_append]
            omega
        · intro g hg
          exact h g (List.mem_of_mem_eraseIdx hg)
theorem step_len {L : List F} {o : O} : (step L o).2.length ≤ max L.length 64 := by
  unfold step
  split
  · exact Nat.le_max_left _ _
  unfold stepAt
  split
  · split
    · split
      · exact Nat.le_max_left _ _
      · split
        · exact Nat.le_max_left _ _
        · rw [List.length_insertIdx]
          split <;> omega
    · exact Nat.le_max_left _ _
  · split
    · split
      · exact Nat.le_max_left _ _
      · rw [List.length_set]; exact Nat.le_max_left _ _
    · split
      · rw [List.length_set]; exact Nat.le_max_left _ _
      · split
        · split
          · exact Nat.le_max_left _ _
          · rw [List.length_set]; exact Nat.le_max_left _ _
        · have := List.length_eraseIdx_le L (findF L o.name)
          show (L.eraseIdx (findF L o.name)).length ≤ _
          omega
theorem run_fit {L : List F} {ops : List O} (h : Fit L) : Fit (run L ops).1 := by
  induction ops generalizing L with
  | nil => exact h
  | cons o r ih =>
    by_cases he : (step L o).1 = 0
    · rw [run_ok he]; exact ih (step_fit h)
    · rw [run_no he]; exact h
theorem run_len {L : List F} {ops : List O} : (run L ops).1.length ≤ max L.length 64 := by
  induction ops generalizing L with
  | nil => exact Nat.le_max_left _ _
  | cons o r ih =>
    by_cases he : (step L o).1 = 0
    · rw [run_ok he]
      have := ih (L := (step L o).2)
      have := step_len (L := L) (o := o)
      show (run (step L o).2 r).1.length ≤ _
      omega
    · rw [run_no he]; exact Nat.le_max_left _ _
/-- P3.3: two lists are one. -/
theorem run_append {L : List F} {a b : List O} (h : (run L a).2.2 = 0) : run L (a ++ b) = bump a.length (run (run L a).1 b) := by
  induction a generalizing L with
  | nil => rfl
  | cons o r ih =>
    by_cases he : (step L o).1 = 0
    · rw [run_ok he] at h ⊢
      rw [List.cons_append, run_ok he, ih h, bump_bump]
      rfl
    · rw [run_no he] at h
      exact absurd h he

/-- All bytes of the file of a name. -/
def bytesF (L : List F) (nm : ByteArray) : ByteArray × Nat :=
  match L[findF L nm]? with
  | none => (⟨#[]⟩, 30)
  | some f => (f.kept ++ f.loose, 0)

theorem find?_bytes (L : List F) (nm : ByteArray) : L[findF L nm]? = L.find? fun f => eqS f.name nm := by
  unfold findF
  induction L with
  | nil => rfl
  | cons f r ih =>
    rw [List.findIdx_cons, List.find?_cons]
    cases eqS f.name nm <;> simp [ih]
theorem eqS_ne {x y : ByteArray} (h : x ≠ y) : eqS x y = false := by
  rw [Bool.eq_false_iff]
  exact fun e => h (eqS_iff.1 e)
theorem find_set {L : List F} {i : Nat} {f : F} {nm : ByteArray} (hi : ∀ h : i < L.length, L[i].name ≠ nm) (hf : f.name ≠ nm) : (L.set i f).find? (fun f => eqS f.name nm) = L.find? fun f => eqS f.name nm := by
  induction L generalizing i with
  | nil => rfl
  | cons g r ih =>
    cases i with
    | zero =>
      have h0 : g.name ≠ nm := hi (Nat.zero_lt_succ _)
      rw [List.set_cons_zero, List.find?_cons, List.find?_cons, eqS_ne hf, eqS_ne h0]
    | succ i =>
      rw [List.set_cons_succ, List.find?_cons, List.find?_cons, ih (fun h => hi (Nat.succ_lt_succ h))]
theorem find_insert {L : List F} {i : Nat} {f : F} {nm : ByteArray} (hf : f.name ≠ nm) : (L.insertIdx i f).find? (fun f => eqS f.name nm) = L.find? fun f => eqS f.name nm := by
  induction L generalizing i with
  | nil =>
    cases i with
    | zero => rw [List.insertIdx_zero, List.find?_cons, eqS_ne hf]
    | succ i => rfl
  | cons g r ih =>
    cases i with
    | zero => rw [List.insertIdx_zero, List.find?_cons, eqS_ne hf]
    | succ i => rw [List.insertIdx_succ_cons, List.find?_cons, List.find?_cons, ih]
theorem find_erase {L : List F} {i : Nat} {nm : ByteArray} (hi : ∀ h : i < L.length, L[i].name ≠ nm) : (L.eraseIdx i).find? (fun f => eqS f.name nm) = L.find? fun f => eqS f.name nm := by
  induction L generalizing i with
  | nil => rfl
  | cons g r ih =>
    cases i with
    | zero =>
      have h0 : g.name ≠ nm := hi (Nat.zero_lt_succ _)
      rw [List.eraseIdx_cons_zero, List.find?_cons, eqS_ne h0]
    | succ i =>
      rw [List.eraseIdx_cons_succ, List.find?_cons, List.find?_cons, ih (fun h => hi (Nat.succ_lt_succ h))]
theorem bytesF_of {L L' : List F} {nm : ByteArray} (h : L'.find? (fun f => eqS f.name nm) = L.find? fun f => eqS f.name nm) : bytesF L' nm = bytesF L nm := by
  unfold bytesF
  rw [find?_bytes, find?_bytes, h]
/-- How many loose bytes are kept. -/
def amount (f : F) (keep : List Int) (i : Nat) : Nat := min (keep.getD i 0).toNat f.loose.size
def crashAt (f : F) (keep : List Int) (i : Nat) : F := ⟨f.name, f.kept ++ f.loose.extract 0 (amount f keep i), ⟨#[]⟩⟩
theorem append_nil (s : ByteArray) : s ++ (⟨#[]⟩ : ByteArray) = s := by
  apply ByteArray.ext
  rw [ByteArray.data_append]
  simp
theorem nil_append (s : ByteArray) : (⟨#[]⟩ : ByteArray) ++ s = s := by
  apply ByteArray.ext
  rw [ByteArray.data_append]
  simp
end Go.Proofs.YtlnhbndghnkfmaaGreatDoor
namespace Go.Proofs.YtlnhbndghnkfmaaGreatDoor
open Go.Shelf Go.RowKit
def lays316_ren : Go.Shelf.Ren := ⟨fun | 316 => 107 | n => n, fun | 0 => 0 | 3 => 3 | 4 => 4 | 5 => 5 | 9 => 9 | 37 => 121 | 127 => 163 | n => n, fun | n => n⟩
theorem lays316 : Go.Proofs.LaysM.n316 Tryz.prog lays316_ren := {
  mixed := by kernel_rfl
  f316 := Tryz.func107.trans (congrArg some (by kernel_rfl))
  t0 := Tryz.underlying0
  a0 := Tryz.isAgg0
  z0 := Tryz.sizeOf0
  v0 := Tryz.zeroValue0
  t3 := Tryz.underlying3
  a3 := Tryz.isAgg3
  z3 := Tryz.sizeOf3
  v3 := Tryz.zeroValue3
  t4 := Tryz.underlying4
  a4 := Tryz.isAgg4
  z4 := Tryz.sizeOf4
  v4 := Tryz.zeroValue4
  t9 := Tryz.underlying9
  a9 := Tryz.isAgg9
  z9 := Tryz.sizeOf9
  v9 := Tryz.zeroValue9
  t37 := Tryz.underlying121
  a37 := Tryz.isAgg121
  z37 := Tryz.sizeOf121
  v37 := Tryz.zeroValue121
  t127 := Tryz.underlying163
  a127 := Tryz.isAgg163
  z127 := Tryz.sizeOf163
  v127 := Tryz.zeroValue163
  t5 := Tryz.underlying5
  a5 := Tryz.isAgg5
  z5 := Tryz.sizeOf5
  v5 := Tryz.zeroValue5
  i0 := by kernel_rfl
  i3 := by kernel_rfl
  i4 := by kernel_rfl
  i5 := by kernel_rfl
  i9 := by kernel_rfl
  i37 := by kernel_rfl
  i127 := by kernel_rfl }
theorem clone_lib (s : ByteArray) (w : World) (hlim : s.size ≤ 281474976710656) :
    Calls Tryz.prog 107 #[.string s] w fun e w' => e = .returned (.string s) ∧ Below w.heap.size w w' := Any.stringslite_Clone lays316 s w hlim
end Go.Proofs.YtlnhbndghnkfmaaGreatDoor
namespace Go.Proofs.YtlnhbndghnkfmaaGreatDoor
open Go.RowKit

theorem clone_any (s : ByteArray) (hs : s.size ≤ 281474976710656) (w : World) :
    Calls Tryz.prog 66 #[.string s] w fun e w' => e = .returned (.string s) ∧ Gr w w' := by
  have H := Lib.hid (fun w => clone_lib s w hs)
  go_enter Tryz.func66, Tryz.ntmps66
  go_wp2_with fail
  refine (H.out _).mono ?_
  rintro e w1 ⟨rfl, g⟩
  go_wp2
  go_ret
  exact ⟨rfl, g⟩

end Go.Proofs.YtlnhbndghnkfmaaGreatDoor
namespace Go.Proofs.YtlnhbndghnkfmaaGreatDoor
open Go.RowKit

theorem nbN_eq {c : Nat} {b : Bool} (h : b = true ↔ (97 ≤ c ∧ c ≤ 122) ∨ (48 ≤ c ∧ c ≤ 57) ∨ c = 46) : Ending.returned (.bool b) = .returned (.bool (nbN c)) := by
  have : b = nbN c := by
    unfold nbN
    rw [Bool.eq_iff_iff, h, decide_eq_true_iff]
  rw [this]
theorem nameByte_any (c : Nat) (hc : c < 256) (w : World) :
    Calls Tryz.prog 175 #[.int .u8 c] w fun e w' => e = .returned (.bool (nbN c)) ∧ w = w' := by
  go_enter Tryz.func175, Tryz.ntmps175
  go_wp2
  all_goals go_ret
  all_goals exact ⟨nbN_eq (by simp; omega), rfl⟩

theorem nameOk_size (s : ByteArray) : nameOk s = (decide (1 ≤ s.size ∧ s.size ≤ 32) && s.data.toList.all fun c => nbN c.toNat) := by
  unfold nameOk nameL
  rw [Array.length_toList]
  rfl
theorem nameOk_short {s : ByteArray} (h : ¬ (1 ≤ s.size ∧ s.size ≤ 32)) : nameOk s = false := by
  rw [nameOk_size, decide_eq_false h]; rfl
theorem nameOk_bad {s : ByteArray} {k : Nat} (hk : k < s.size) (h : nbN (s[k]).toNat = false) : nameOk s = false := by
  rw [nameOk_size]
  have : (s.data.toList.all fun c => nbN c.toNat) = false := by
    rw [List.all_eq_false]
    exact ⟨s[k], by rw [ByteArray.getElem_eq_getElem_data]; exact Array.mem_toList_iff.2 (Array.getElem_mem _), by rw [h]; simp⟩
  rw [this, Bool.and_false]
theorem nameOk_good {s : ByteArray} (h1 : 1 ≤ s.size ∧ s.size ≤ 32) (h : ∀ k (hk : k < s.size), nbN (s[k]).toNat = true) : nameOk s = true := by
  rw [nameOk_size, decide_eq_true h1, Bool.true_and, List.all_eq_true]
  intro c hc
  obtain ⟨i, hi, rfl⟩ := Array.mem_iff_getElem.1 (Array.mem_toList_iff.1 hc)
  exact h i hi
theorem size_empty {s : ByteArray} : s.toList = [] ↔ s.size = 0 := by
  rw [ByteArray.toList_eq, ← List.length_eq_zero_iff, Array.length_toList]; rfl

set_option maxRecDepth 100000 in
theorem name_any (s : ByteArray) (hs : s.size ≤ 9223372036854775807) (w : World) :
    Calls Tryz.prog 145 #[.string s] w fun e w' => e = .returned (.bool (nameOk s)) ∧ w = w' := by
  by_cases h0 : s.size = 0
  · have he : s.toList = [] := size_empty.2 h0
    have HF := Lib.hid (nameOk_short (s := s) (by omega))
    clear h0
    go_enter Tryz.func145, Tryz.ntmps145
    go_wp2_with fail
    go_ret
    exact ⟨by rw [HF.out]; rfl, rfl⟩
  have he : s.toList.isEmpty = false := by
    cases hq : s.toList with
    | nil => exact absurd (size_empty.1 hq) h0
    | cons a b => rfl
  by_cases h32 : 32 < s.size
  · have HF := Lib.hid (nameOk_short (s := s) (by omega))
    go_enter Tryz.func145, Tryz.ntmps145
    go_wp2_with fail
    go_ret
    exact ⟨by rw [HF.out]; rfl, rfl⟩
  go_enter Tryz.func145, Tryz.ntmps145
  go_wp2_with fail
  go_loop [13] (fun i => ∃ k : Nat, k ≤ s.size ∧ i = .int .i64 k ∧ Hid (∀ j (hj : j < s.size), j < k → nbN (s[j]).toNat = true)) (fun i => s.size - (intOf i).toNat)
  case atStart => exact ⟨0, Nat.zero_le _, rfl, fun j _ h => absurd h (Nat.not_lt_zero _)⟩
  case round =>
    obtain ⟨k, hk, rfl, hall⟩ := hrel
    by_cases hlt : k < s.size
    · have hb : (s[k]).toNat < 256 := UInt8.toNat_lt _
      have H1 := Lib.hid (nameByte_any (s[k]).toNat hb)
      rcases hq : nbN (s[k]).toNat with _ | _
      · rw [hq] at H1
        have HF := Lib.hid (nameOk_bad hlt hq)
        clear hq hb
        go_wp2_with fail
        refine (H1.out _).mono ?_
        rintro e w1 ⟨rfl, rfl⟩
        go_wp2_with fail
        go_ret
        exact ⟨by rw [HF.out]; rfl, rfl⟩
      · rw [hq] at H1
        have HA : Hid (∀ j (hj : j < s.size), j < k + 1 → nbN (s[j]).toNat = true) := by
          intro j hj hjk
          by_cases e : j = k
          · subst e; exact hq
          · exact hall j hj (by omega)
        clear hq hb
        go_wp2_with fail
        refine (H1.out _).mono ?_
        rintro e w1 ⟨rfl, rfl⟩
        go_wp2_with fail
        go_round
        case rel => exact ⟨k + 1, by omega, by go_num, HA⟩
        case measure => simp [intOf]; omega
    · have HF := Lib.hid (nameOk_good (s := s) (by omega) (fun j hj => hall j hj (by omega)))
      go_wp2_with fail
      go_ret
      exact ⟨by rw [HF.out]; rfl, rfl⟩

end Go.Proofs.YtlnhbndghnkfmaaGreatDoor
namespace Go.Proofs.YtlnhbndghnkfmaaGreatDoor
namespace Crc

def tab : List Nat := [0, 498536548, 997073096, 651767980, 1994146192, 1802195444, 1303535960, 1342533948, 3988292384, 4027552580, 3604390888, 3412177804, 2607071920, 2262029012, 2685067896, 3183342108]
def halfT (k : Nat) : Nat := tab.getD k 0
/-- Four turns by the table. -/
def half (n : Nat) : Nat := n / 16 ^^^ halfT (n % 16)
def turned (n : Nat) : Nat := half (half n)
def stepB (n : Nat) (b : UInt8) : Nat := turned (n ^^^ b.toNat)
def sumOn (n : Nat) (l : List UInt8) : Nat := l.foldl stepB n
def start : Nat := 4294967295
def fin (n : Nat) : Nat := n ^^^ 4294967295
def sum (l : List UInt8) : Nat := fin (sumOn start l)

theorem halfT_lt (k : Nat) : halfT k < 4294967296 := by
  by_cases h : k < 16
  · have : ∀ j : Fin 16, halfT j.val < 4294967296 := by decide
    exact this ⟨k, h⟩
  · have : halfT k = 0 := by
      unfold halfT
      rw [List.getD_eq_getElem?_getD, List.getElem?_eq_none (by simp [tab]; omega)]; rfl
    omega

theorem xor_lt {a b : Nat} (ha : a < 4294967296) (hb : b < 4294967296) : a ^^^ b < 4294967296 :=
  Nat.xor_lt_two_pow (n := 32) ha hb

theorem half_lt {n : Nat} (h : n < 4294967296) : half n < 4294967296 :=
  xor_lt (by omega) (halfT_lt _)
theorem turned_lt {n : Nat} (h : n < 4294967296) : turned n < 4294967296 := half_lt (half_lt h)
theorem stepB_lt {n : Nat} (b : UInt8) (h : n < 4294967296) : stepB n b < 4294967296 :=
  turned_lt (xor_lt h (by have := b.toNat_lt; omega))
theorem sumOn_lt (l : List UInt8) : ∀ {n : Nat}, n < 4294967296 → sumOn n l < 4294967296 := by
  induction l with
  | nil => intro n h; exact h
  | cons b l ih => intro n h; exact ih (stepB_lt b h)
theorem fin_lt {n : Nat} (h : n < 4294967296) : fin n < 4294967296 := xor_lt h (by decide)
theorem start_lt : start < 4294967296 := by decide
theorem sum_lt (l : List UInt8) : sum l < 4294967296 := fin_lt (sumOn_lt l start_lt)

theorem sumOn_append (n : Nat) (a b : List UInt8) : sumOn n (a ++ b) = sumOn (sumOn n a) b := by simp [sumOn]
theorem sumOn_snoc (n : Nat) (a : List UInt8) (b : UInt8) : sumOn n (a ++ [b]) = stepB (sumOn n a) b := by simp [sumOn]
end Crc
end Go.Proofs.YtlnhbndghnkfmaaGreatDoor
