/- Texts PlainDisk, PlainOrd, Rise, joined. -/
import GoSem.Op.String
import Derived.Laws.Strings
import Derived.Test.YtlihcjlonafohaaG01
/- Plain mathematics of the stand-in disk: files, operations, crashes, names. It names no program. -/
namespace Go.Proofs.Ytlihcjlonafohaa

/-- A byte of a name. -/
def nbN (c : Nat) : Bool := decide ((97 ≤ c ∧ c ≤ 122) ∨ (48 ≤ c ∧ c ≤ 57) ∨ c = 46)
def nameL (l : List UInt8) : Bool := decide (1 ≤ l.length ∧ l.length ≤ 32) && l.all fun c => nbN c.toNat
def nameOk (s : ByteArray) : Bool := nameL s.data.toList

structure F where
  name : ByteArray
  kept : ByteArray
  loose : ByteArray
structure O where
  kind : Int
  name : ByteArray
  bytes : ByteArray
  at_ : Int

def F.size (f : F) : Nat := f.kept.size + f.loose.size
def lessS (x y : ByteArray) : Bool := Go.Op.bytesLess x.toList y.toList
/-- Where a file stands: as many as there are, if nowhere. -/
def findF (L : List F) (nm : ByteArray) : Nat := L.findIdx fun f => eqS f.name nm
/-- Where a new one goes. -/
def placeF (L : List F) (nm : ByteArray) : Nat := L.findIdx fun f => !lessS f.name nm
theorem findF_le (L : List F) (nm : ByteArray) : findF L nm ≤ L.length := List.findIdx_le_length
theorem placeF_le (L : List F) (nm : ByteArray) : placeF L nm ≤ L.length := List.findIdx_le_length
theorem findF_name {L : List F} {nm : ByteArray} (h : findF L nm < L.length) : L[findF L nm].name = nm := by
  have := List.findIdx_getElem (w := h)
  exact eqS_iff.1 this
theorem findF_before {L : List F} {nm : ByteArray} {j : Nat} (h : j < findF L nm) (hj : j < L.length) : L[j].name ≠ nm := by
  intro e
  have := List.not_of_lt_findIdx h
  rw [e] at this
  simp [eqS_self] at this
/-- The first of its kind. -/
theorem findF_eq {L : List F} {nm : ByteArray} {k : Nat} (hk : k < L.length) (h1 : L[k].name = nm) (h2 : ∀ j (_ : j < k), L[j].name ≠ nm) : findF L nm = k := by
  unfold findF
  rw [List.findIdx_eq hk]
  refine ⟨by rw [h1]; exact eqS_self _, fun j hj => ?_⟩
  rw [Bool.eq_false_iff]
  exact fun e => h2 j hj (eqS_iff.1 e)
theorem findF_none {L : List F} {nm : ByteArray} (h : ∀ j (_ : j < L.length), L[j].name ≠ nm) : findF L nm = L.length := by
  unfold findF
  rw [List.findIdx_eq_length]
  intro f hf
  obtain ⟨j, hj, rfl⟩ := List.mem_iff_getElem.1 hf
  rw [Bool.eq_false_iff]
  exact fun e => h j hj (eqS_iff.1 e)
theorem placeF_before {L : List F} {nm : ByteArray} {j : Nat} (h : j < placeF L nm) (hj : j < L.length) : lessS L[j].name nm = true := by
  have := List.not_of_lt_findIdx h
  simpa using this
theorem placeF_eq {L : List F} {nm : ByteArray} {k : Nat} (hk : k < L.length) (h1 : lessS L[k].name nm = false) (h2 : ∀ j (_ : j < k), lessS L[j].name nm = true) : placeF L nm = k := by
  unfold placeF
  rw [List.findIdx_eq hk]
  refine ⟨by rw [h1]; rfl, fun j hj => by rw [h2 j hj]; rfl⟩
theorem placeF_none {L : List F} {nm : ByteArray} (h : ∀ j (_ : j < L.length), lessS L[j].name nm = true) : placeF L nm = L.length := by
  unfold placeF
  rw [List.findIdx_eq_length]
  intro f hf
  obtain ⟨j, hj, rfl⟩ := List.mem_iff_getElem.1 hf
  rw [h j hj]; rfl

/-- One operation: the error's number (0: none), and the files behind it. -/
def stepAt (L : List F) (o : O) (i : Nat) : Nat × List F :=
  match L[i]? with
  | none =>
    if o.kind = 1 then
      if 64 ≤ L.length then (4, L)
      else if 1048576 < o.bytes.size then (2, L)
      else (0, L.insertIdx (placeF L o.name) ⟨o.name, ⟨#[]⟩, o.bytes⟩)
    else (30, L)
  | some f =>
    if o.kind = 1 then
      if 1048576 < f.size + o.bytes.size then (2, L)
      else (0, L.set i ⟨f.name, f.kept, f.loose ++ o.bytes⟩)
    else if o.kind = 2 then (0, L.set i ⟨f.name, f.kept ++ f.loose, ⟨#[]⟩⟩)
    else if o.kind = 3 then
      if o.at_ < 0 ∨ (f.size : Int) < o.at_ then (1, L)
      else (0, L.set i ⟨f.name, (f.kept ++ f.loose).extract 0 o.at_.toNat, ⟨#[]⟩⟩)
    else (0, L.eraseIdx i)
def badOp (o : O) : Prop := o.kind < 1 ∨ 4 < o.kind ∨ nameOk o.name = false
instance (o : O) : Decidable (badOp o) := inferInstanceAs (Decidable (_ ∨ _ ∨ _))
def step (L : List F) (o : O) : Nat × List F := if badOp o then (1, L) else stepAt L o (findF L o.name)

theorem step_refused {L : List F} {o : O} (h : (step L o).1 ≠ 0) : (step L o).2 = L := by
  unfold step at h ⊢
  split
  · rfl
  · rename_i hb
    rw [if_neg hb] at h
    unfold stepAt at h ⊢
    split <;> rename_i he <;> rw [he] at h <;> simp only at h ⊢
    all_goals (repeat' split at h) <;> first | (exact absurd rfl h) | skip
    all_goals (repeat' split) <;> first | rfl | contradiction | omega

/-- The list, up to the first that is refused: the files, how many were done, the error's number. -/
def run : List F → List O → List F × Nat × Nat
  | L, [] => (L, 0, 0)
  | L, o :: r => if (step L o).1 = 0 then let x := run (step L o).2 r; (x.1, x.2.1 + 1, x.2.2) else (L, 0, (step L o).1)
def bump (k : Nat) (x : List F × Nat × Nat) : List F × Nat × Nat := (x.1, x.2.1 + k, x.2.2)
theorem run_ok {L : List F} {o : O} {r : List O} (h : (step L o).1 = 0) : run L (o :: r) = bump 1 (run (step L o).2 r) := by
  show (if (step L o).1 = 0 then _ else _) = _
  rw [if_pos h]; rfl
theorem run_no {L : List F} {o : O} {r : List O} (h : (step L o).1 ≠ 0) : run L (o :: r) = (L, 0, (step L o).1) := by
  show (if (step L o).1 = 0 then _ else _) = _
  rw [if_neg h]
theorem bump_bump (a b : Nat) (x : List F × Nat × Nat) : bump a (bump b x) = bump (b + a) x := by simp [bump, Nat.add_assoc]
theorem bump_zero (x : List F × Nat × Nat) : bump 0 x = x := rfl

/-- Sizes that a machine bears. -/
def FitF (f : F) : Prop := f.name.size ≤ 281474976710656 ∧ f.size ≤ 281474976710656
def Fit (L : List F) : Prop := ∀ f ∈ L, FitF f
theorem Fit.at_ {L : List F} (h : Fit L) {i : Nat} (hi : i < L.length) : FitF L[i] := h _ (List.getElem_mem hi)
theorem size_nil : (⟨#[]⟩ : ByteArray).size = 0 := rfl
theorem name_small {s : ByteArray} (h : nameOk s = true) : s.size ≤ 32 := by
  unfold nameOk nameL at h
  rw [Bool.and_eq_true] at h
  have := of_decide_eq_true h.1
  rw [Array.length_toList] at this
  exact this.2
theorem Fit.set {L : List F} (h : Fit L) (i : Nat) {f : F} (hf : FitF f) : Fit (L.set i f) := by
  intro g hg
  rcases List.mem_or_eq_of_mem_set hg with h1 | h1
  · exact h g h1
  · subst h1; exact hf
theorem step_fit {L : List F} {o : O} (h : Fit L) : Fit (step L o).2 := by
  unfold step
  split
  · exact h
  rename_i hb
  have hn : o.name.size ≤ 281474976710656 := by
    have : nameOk o.name = true := by
      rcases hq : nameOk o.name with _ | _
      · exact absurd (Or.inr (Or.inr hq)) hb
      · rfl
    have := name_small this
    omega
  unfold stepAt
  split
  · split
    · split
      · exact h
      · split
        · exact h
        · intro g hg
          rcases (List.mem_insertIdx (placeF_le _ _)).1 hg with h1 | h1
          · subst h1
            refine ⟨hn, ?_⟩
            show 0 + o.bytes.size ≤ _
            omega
          · exact h g h1
    · exact h
  · rename_i f hf
    have hm : FitF f := h f (List.mem_of_getElem? hf)
    unfold FitF F.size at hm
    split
    · split
      · exact h
      · rename_i hs
        refine h.set _ ⟨hm.1, ?_⟩
        unfold F.size at hs ⊢
        show f.kept.size + (f.loose ++ o.bytes).size ≤ _
        rw [ByteArray.size_append]
        omega
    · split
      · refine h.set _ ⟨hm.1, ?_⟩
        show (f.kept ++ f.loose).size + 0 ≤ _
        rw [ByteArray.size_append]
        omega
      · split
        · split
          · exact h
          · refine h.set _ ⟨hm.1, ?_⟩
            show ((f.kept ++ f.loose).extract 0 _).size + 0 ≤ _
            rw [ByteArray.size_extract, ByteArray.size_append]
            omega
        · intro g hg
          exact h g (List.mem_of_mem_eraseIdx hg)
theorem step_len {L : List F} {o : O} : (step L o).2.length ≤ max L.length 64 := by
  unfold step
  split
  · exact Nat.le_max_left _ _
  unfold stepAt
  split
  · split
    · split
      · exact Nat.le_max_left _ _
      · split
        · exact Nat.le_max_left _ _
        · rw [List.length_insertIdx]
          split <;> omega
    · exact Nat.le_max_left _ _
  · split
    · split
      · exact Nat.le_max_left _ _
      · rw [List.length_set]; exact Nat.le_max_left _ _
    · split
      · rw [List.length_set]; exact Nat.le_max_left _ _
      · split
        · split
          · exact Nat.le_max_left _ _
          · rw [List.length_set]; exact Nat.le_max_left _ _
        · have := List.length_eraseIdx_le L (findF L o.name)
          show (L.eraseIdx (findF L o.name)).length ≤ _
          omega
theorem run_fit {L : List F} {ops : List O} (h : Fit L) : Fit (run L ops).1 := by
  induction ops generalizing L with
  | nil => exact h
  | cons o r ih =>
    by_cases he : (step L o).1 = 0
    · rw [run_ok he]; exact ih (step_fit h)
    · rw [run_no he]; exact h
theorem run_len {L : List F} {ops : List O} : (run L ops).1.length ≤ max L.length 64 := by
  induction ops generalizing L with
  | nil => exact Nat.le_max_left _ _
  | cons o r ih =>
    by_cases he : (step L o).1 = 0
    · rw [run_ok he]
      have := ih (L := (step L o).2)
      have := step_len (L := L) (o := o)
      show (run (step L o).2 r).1.length ≤ _
      omega
    · rw [run_no he]; exact Nat.le_max_left _ _
theorem run_count {L : List F} {ops : List O} : (run L ops).2.1 ≤ ops.length ∧ ((run L ops).2.2 = 0 → (run L ops).2.1 = ops.length) ∧ ((run L ops).2.2 ≠ 0 → (run L ops).2.1 < ops.length) := by
  induction ops generalizing L with
  | nil => exact ⟨Nat.le_refl _, fun _ => rfl, fun h => absurd rfl h⟩
  | cons o r ih =>
    by_cases he : (step L o).1 = 0
    · rw [run_ok he]
      obtain ⟨h1, h2, h3⟩ := ih (L := (step L o).2)
      refine ⟨?_, fun h => ?_, fun h => ?_⟩
      · show (run _ r).2.1 + 1 ≤ r.length + 1
        omega
      · show (run _ r).2.1 + 1 = r.length + 1
        rw [h2 h]
      · show (run _ r).2.1 + 1 < r.length + 1
        have := h3 h
        omega
    · rw [run_no he]
      exact ⟨Nat.zero_le _, fun h => absurd h he, fun _ => Nat.zero_lt_succ _⟩
/-- P3.3: two lists are one. -/
theorem run_append {L : List F} {a b : List O} (h : (run L a).2.2 = 0) : run L (a ++ b) = bump a.length (run (run L a).1 b) := by
  induction a generalizing L with
  | nil => rfl
  | cons o r ih =>
    by_cases he : (step L o).1 = 0
    · rw [run_ok he] at h ⊢
      rw [List.cons_append, run_ok he, ih h, bump_bump]
      rfl
    · rw [run_no he] at h
      exact absurd h he

/-- All bytes of the file of a name. -/
def bytesF (L : List F) (nm : ByteArray) : ByteArray × Nat :=
  match L[findF L nm]? with
  | none => (⟨#[]⟩, 30)
  | some f => (f.kept ++ f.loose, 0)

theorem find?_bytes (L : List F) (nm : ByteArray) : L[findF L nm]? = L.find? fun f => eqS f.name nm := by
  unfold findF
  induction L with
  | nil => rfl
  | cons f r ih =>
    rw [List.findIdx_cons, List.find?_cons]
    cases eqS f.name nm <;> simp [ih]
theorem eqS_ne {x y : ByteArray} (h : x ≠ y) : eqS x y = false := by
  rw [Bool.eq_false_iff]
  exact fun e => h (eqS_iff.1 e)
theorem find_set {L : List F} {i : Nat} {f : F} {nm : ByteArray} (hi : ∀ h : i < L.length, L[i].name ≠ nm) (hf : f.name ≠ nm) : (L.set i f).find? (fun f => eqS f.name nm) = L.find? fun f => eqS f.name nm := by
  induction L generalizing i with
  | nil => rfl
  | cons g r ih =>
    cases i with
    | zero =>
      have h0 : g.name ≠ nm := hi (Nat.zero_lt_succ _)
      rw [List.set_cons_zero, List.find?_cons, List.find?_cons, eqS_ne hf, eqS_ne h0]
    | succ i =>
      rw [List.set_cons_succ, List.find?_cons, List.find?_cons, ih (fun h => hi (Nat.succ_lt_succ h))]
theorem find_insert {L : List F} {i : Nat} {f : F} {nm : ByteArray} (hf : f.name ≠ nm) : (L.insertIdx i f).find? (fun f => eqS f.name nm) = L.find? fun f => eqS f.name nm := by
  induction L generalizing i with
  | nil =>
    cases i with
    | zero => rw [List.insertIdx_zero, List.find?_cons, eqS_ne hf]
    | succ i => rfl
  | cons g r ih =>
    cases i with
    | zero => rw [List.insertIdx_zero, List.find?_cons, eqS_ne hf]
    | succ i => rw [List.insertIdx_succ_cons, List.find?_cons, List.find?_cons, ih]
theorem find_erase {L : List F} {i : Nat} {nm : ByteArray} (hi : ∀ h : i < L.length, L[i].name ≠ nm) : (L.eraseIdx i).find? (fun f => eqS f.name nm) = L.find? fun f => eqS f.name nm := by
  induction L generalizing i with
  | nil => rfl
  | cons g r ih =>
    cases i with
    | zero =>
      have h0 : g.name ≠ nm := hi (Nat.zero_lt_succ _)
      rw [List.eraseIdx_cons_zero, List.find?_cons, eqS_ne h0]
    | succ i =>
      rw [List.eraseIdx_cons_succ, List.find?_cons, List.find?_cons, ih (fun h => hi (Nat.succ_lt_succ h))]
theorem bytesF_of {L L' : List F} {nm : ByteArray} (h : L'.find? (fun f => eqS f.name nm) = L.find? fun f => eqS f.name nm) : bytesF L' nm = bytesF L nm := by
  unfold bytesF
  rw [find?_bytes, find?_bytes, h]
theorem step_others {L : List F} {o : O} {nm : ByteArray} (h : o.name ≠ nm) : bytesF (step L o).2 nm = bytesF L nm := by
  apply bytesF_of
  unfold step
  split
  · rfl
  have hi : ∀ hh : findF L o.name < L.length, L[findF L o.name].name ≠ nm := fun hh => by rw [findF_name hh]; exact h
  unfold stepAt
  split
  · split
    · split
      · rfl
      · split
        · rfl
        · exact find_insert h
    · rfl
  · rename_i f hf
    obtain ⟨hh, hfe⟩ := List.getElem?_eq_some_iff.1 hf
    have hn : f.name ≠ nm := by rw [← hfe]; exact hi hh
    split
    · split
      · rfl
      · exact find_set hi hn
    · split
      · exact find_set hi hn
      · split
        · split
          · rfl
          · exact find_set hi hn
        · exact find_erase hi
/-- Files that no operation names. -/
theorem run_others {L : List F} {ops : List O} {nm : ByteArray} (h : ∀ o ∈ ops, o.name ≠ nm) : bytesF (run L ops).1 nm = bytesF L nm := by
  induction ops generalizing L with
  | nil => rfl
  | cons o r ih =>
    by_cases he : (step L o).1 = 0
    · rw [run_ok he]
      show bytesF (run (step L o).2 r).1 nm = _
      rw [ih (fun o ho => h o (List.mem_cons_of_mem _ ho)), step_others (h o List.mem_cons_self)]
    · rw [run_no he]

/-- How many loose bytes are kept. -/
def amount (f : F) (keep : List Int) (i : Nat) : Nat := min (keep.getD i 0).toNat f.loose.size
def crashAt (f : F) (keep : List Int) (i : Nat) : F := ⟨f.name, f.kept ++ f.loose.extract 0 (amount f keep i), ⟨#[]⟩⟩
def crash (L : List F) (keep : List Int) : List F := L.mapIdx fun i f => crashAt f keep i
theorem crash_len (L : List F) (keep : List Int) : (crash L keep).length = L.length := by unfold crash; rw [List.length_mapIdx]
theorem crash_at {L : List F} {keep : List Int} {i : Nat} (h : i < L.length) : (crash L keep)[i]'(by rw [crash_len]; exact h) = crashAt L[i] keep i := by
  unfold crash
  rw [List.getElem_mapIdx]
theorem extract_nil (n : Nat) : (⟨#[]⟩ : ByteArray).extract 0 n = ⟨#[]⟩ := by
  apply ByteArray.ext
  simp
theorem append_nil (s : ByteArray) : s ++ (⟨#[]⟩ : ByteArray) = s := by
  apply ByteArray.ext
  rw [ByteArray.data_append]
  simp
theorem nil_append (s : ByteArray) : (⟨#[]⟩ : ByteArray) ++ s = s := by
  apply ByteArray.ext
  rw [ByteArray.data_append]
  simp
/-- P3.2: a second crash takes nothing. -/
theorem crash_calm (L : List F) (keep more : List Int) : crash (crash L keep) more = crash L keep := by
  apply List.ext_getElem
  · rw [crash_len]
  · intro i h1 h2
    rw [crash_at h2]
    have h3 : i < L.length := by rw [crash_len] at h2; exact h2
    rw [crash_at h3]
    simp only [crashAt, extract_nil, append_nil]
theorem crash_fit {L : List F} {keep : List Int} (h : Fit L) : Fit (crash L keep) := by
  intro f hf
  obtain ⟨i, hi, rfl⟩ := List.mem_iff_getElem.1 hf
  have h3 : i < L.length := by rw [crash_len] at hi; exact hi
  rw [crash_at h3]
  have hm := h.at_ h3
  unfold FitF F.size at hm
  refine ⟨hm.1, ?_⟩
  show (L[i].kept ++ L[i].loose.extract 0 _).size + 0 ≤ _
  rw [ByteArray.size_append, ByteArray.size_extract]
  omega
end Go.Proofs.Ytlihcjlonafohaa
/- Plain mathematics: strings are in one order. It names no program. -/
namespace Go.Proofs.Ytlihcjlonafohaa
open Go.Op

theorem less_irrefl : ∀ a : List UInt8, bytesLess a a = false
  | [] => rfl
  | x :: a => by
    unfold bytesLess
    rw [less_irrefl a, Bool.and_false, Bool.or_false, decide_eq_false_iff_not]
    exact fun h => absurd h (UInt8.lt_irrefl x)
theorem less_trans : ∀ a b c : List UInt8, bytesLess a b = true → bytesLess b c = true → bytesLess a c = true
  | _, [], _, h, _ => by unfold bytesLess at h; cases h
  | _, _ :: _, [], _, h => by unfold bytesLess at h; cases h
  | [], _ :: _, _ :: _, _, _ => rfl
  | x :: a, y :: b, z :: c, h, k => by
    unfold bytesLess at h k ⊢
    simp only [Bool.or_eq_true, Bool.and_eq_true, decide_eq_true_eq, beq_iff_eq] at h k ⊢
    rcases h with h | ⟨rfl, h⟩
    · rcases k with k | ⟨rfl, k⟩
      · exact .inl (UInt8.lt_trans h k)
      · exact .inl h
    · rcases k with k | ⟨rfl, k⟩
      · exact .inl k
      · exact .inr ⟨rfl, less_trans a b c h k⟩
theorem less_total : ∀ a b : List UInt8, bytesLess a b = true ∨ a = b ∨ bytesLess b a = true
  | [], [] => .inr (.inl rfl)
  | [], _ :: _ => .inl rfl
  | _ :: _, [] => .inr (.inr rfl)
  | x :: a, y :: b => by
    unfold bytesLess
    simp only [Bool.or_eq_true, Bool.and_eq_true, decide_eq_true_eq, beq_iff_eq]
    rcases Nat.lt_trichotomy x.toNat y.toNat with h | h | h
    · exact .inl (.inl (UInt8.lt_iff_toNat_lt.2 h))
    · have e : x = y := UInt8.toNat_inj.1 h
      subst e
      rcases less_total a b with k | k | k
      · exact .inl (.inr ⟨rfl, k⟩)
      · exact .inr (.inl (by rw [k]))
      · exact .inr (.inr (.inr ⟨rfl, k⟩))
    · exact .inr (.inr (.inl (UInt8.lt_iff_toNat_lt.2 h)))
theorem lessS_irrefl (x : ByteArray) : lessS x x = false := less_irrefl _
theorem lessS_trans {x y z : ByteArray} (h : lessS x y = true) (k : lessS y z = true) : lessS x z = true := less_trans _ _ _ h k
theorem lessS_total (x y : ByteArray) : lessS x y = true ∨ x = y ∨ lessS y x = true := by
  rcases less_total x.toList y.toList with h | h | h
  · exact .inl h
  · refine .inr (.inl (eqS_iff.1 ?_))
    unfold eqS
    rw [h]
    simp
  · exact .inr (.inr h)
theorem lessS_asymm {x y : ByteArray} (h : lessS x y = true) : lessS y x = false := by
  rw [Bool.eq_false_iff]
  intro k
  have := lessS_trans h k
  rw [lessS_irrefl] at this
  cases this
theorem lessS_ne {x y : ByteArray} (h : lessS x y = true) : x ≠ y := fun e => by rw [e, lessS_irrefl] at h; cases h
/-- 'not at most', as the code asks it. -/
theorem leq_not (x y : ByteArray) : (lessS y x || eqS y x) = !lessS x y := by
  rcases lessS_total x y with h | h | h
  · rw [h, lessS_asymm h, eqS_ne (lessS_ne h).symm]
    rfl
  · subst h
    rw [lessS_irrefl, eqS_self]
    rfl
  · rw [h, lessS_asymm h]
    rfl
end Go.Proofs.Ytlihcjlonafohaa
/- Plain mathematics: rising lists of strings; an element put in at its place; the rising list of any strings. -/
namespace Go.Proofs.Ytlihcjlonafohaa

/-- Each is less than the ones behind it. -/
def RisingS (L : List ByteArray) : Prop := L.Pairwise fun a b => lessS a b = true
/-- A string more, at its place, once. -/
def insRs (s : ByteArray) : List ByteArray → List ByteArray
  | [] => [s]
  | a :: r => if lessS a s = true then a :: insRs s r else if a = s then a :: r else s :: a :: r
/-- The rising list of these strings. -/
def riseT (T : List ByteArray) : List ByteArray := T.foldl (fun L s => insRs s L) []
theorem mem_insRs {x s : ByteArray} : ∀ {L : List ByteArray}, x ∈ insRs s L ↔ x = s ∨ x ∈ L
  | [] => by simp [insRs]
  | a :: r => by
    have ih := mem_insRs (x := x) (s := s) (L := r)
    unfold insRs
    split
    · rw [List.mem_cons, ih, List.mem_cons]
      constructor
      · rintro (h | h | h)
        · exact .inr (.inl h)
        · exact .inl h
        · exact .inr (.inr h)
      · rintro (h | h | h)
        · exact .inr (.inl h)
        · exact .inl h
        · exact .inr (.inr h)
    · split
      · next h => subst h; simp
      · simp
theorem insRs_rising {s : ByteArray} : ∀ {L : List ByteArray}, RisingS L → RisingS (insRs s L)
  | [], _ => by unfold insRs RisingS; exact List.pairwise_singleton _ _
  | a :: r, h => by
    obtain ⟨h1, h2⟩ := List.pairwise_cons.1 h
    have ih := insRs_rising (s := s) h2
    unfold insRs
    split
    · next hl =>
      refine List.pairwise_cons.2 ⟨fun x hx => ?_, ih⟩
      rcases mem_insRs.1 hx with rfl | hx
      · exact hl
      · exact h1 x hx
    · next hl =>
      split
      · exact h
      · next hne =>
        have hsa : lessS s a = true := by
          rcases lessS_total s a with k | k | k
          · exact k
          · exact absurd k.symm hne
          · exact absurd k hl
        refine List.pairwise_cons.2 ⟨fun x hx => ?_, h⟩
        rcases List.mem_cons.1 hx with rfl | hx
        · exact hsa
        · exact lessS_trans hsa (h1 x hx)
theorem risingS_nil : RisingS [] := List.Pairwise.nil
theorem foldIns_rising : ∀ (T : List ByteArray) {A : List ByteArray}, RisingS A → RisingS (T.foldl (fun L s => insRs s L) A)
  | [], _, h => h
  | _ :: T, _, h => foldIns_rising T (insRs_rising h)
theorem mem_foldIns {x : ByteArray} : ∀ (T A : List ByteArray), x ∈ T.foldl (fun L s => insRs s L) A ↔ x ∈ T ∨ x ∈ A
  | [], A => by simp
  | s :: T, A => by
    rw [List.foldl_cons, mem_foldIns T (insRs s A), mem_insRs, List.mem_cons]
    constructor
    · rintro (h | h | h)
      · exact .inl (.inr h)
      · exact .inl (.inl h)
      · exact .inr h
    · rintro ((h | h) | h)
      · exact .inr (.inl h)
      · exact .inl h
      · exact .inr (.inr h)
theorem riseT_rising (T : List ByteArray) : RisingS (riseT T) := foldIns_rising T risingS_nil
theorem mem_riseT {x : ByteArray} {T : List ByteArray} : x ∈ riseT T ↔ x ∈ T := by
  unfold riseT
  rw [mem_foldIns]
  simp
theorem riseT_nil : riseT [] = [] := rfl
theorem riseT_snoc (T : List ByteArray) (s : ByteArray) : riseT (T ++ [s]) = insRs s (riseT T) := by
  unfold riseT
  rw [List.foldl_append]
  rfl
/-- Rising lists of the same strings are one list. -/
theorem risingS_ext : ∀ {A B : List ByteArray}, RisingS A → RisingS B → (∀ x, x ∈ A ↔ x ∈ B) → A = B
  | [], [], _, _, _ => rfl
  | [], b :: B, _, _, h => by have := (h b).2 (by simp); cases this
  | a :: A, [], _, _, h => by have := (h a).1 (by simp); cases this
  | a :: A, b :: B, ha, hb, h => by
    obtain ⟨a1, a2⟩ := List.pairwise_cons.1 ha
    obtain ⟨b1, b2⟩ := List.pairwise_cons.1 hb
    have e : a = b := by
      rcases List.mem_cons.1 ((h a).1 (by simp)) with k | k
      · exact k
      · rcases List.mem_cons.1 ((h b).2 (by simp)) with q | q
        · exact q.symm
        · have c1 := b1 a k
          have c2 := a1 b q
          rw [lessS_asymm c2] at c1
          cases c1
    subst e
    have hr : A = B := risingS_ext a2 b2 fun x => by
      constructor
      · intro hx
        rcases List.mem_cons.1 ((h x).1 (List.mem_cons_of_mem _ hx)) with k | k
        · have := a1 x hx
          rw [k, lessS_irrefl] at this
          cases this
        · exact k
      · intro hx
        rcases List.mem_cons.1 ((h x).2 (List.mem_cons_of_mem _ hx)) with k | k
        · have := b1 x hx
          rw [k, lessS_irrefl] at this
          cases this
        · exact k
    rw [hr]
theorem riseT_uniq {R T : List ByteArray} (h : RisingS R) (hm : ∀ x, x ∈ R ↔ x ∈ T) : R = riseT T :=
  risingS_ext h (riseT_rising T) fun x => (hm x).trans mem_riseT.symm
theorem riseT_congr {T U : List ByteArray} (h : ∀ x, x ∈ T ↔ x ∈ U) : riseT T = riseT U :=
  riseT_uniq (riseT_rising T) fun x => mem_riseT.trans (h x)
theorem RisingS.filter {L : List ByteArray} (h : RisingS L) (p : ByteArray → Bool) : RisingS (L.filter p) := List.Pairwise.filter p h
theorem insRs_len (s : ByteArray) : ∀ L : List ByteArray, (insRs s L).length ≤ L.length + 1
  | [] => Nat.le_refl _
  | a :: r => by
    have := insRs_len s r
    unfold insRs
    split
    · simp only [List.length_cons]; omega
    · split
      · simp only [List.length_cons]; omega
      · simp only [List.length_cons]; omega
theorem foldIns_len : ∀ (T A : List ByteArray), (T.foldl (fun L s => insRs s L) A).length ≤ T.length + A.length
  | [], A => by simp
  | s :: T, A => by
    have h1 := foldIns_len T (insRs s A)
    have h2 := insRs_len s A
    rw [List.foldl_cons, List.length_cons]
    omega
theorem riseT_len (T : List ByteArray) : (riseT T).length ≤ T.length := by
  have := foldIns_len T []
  unfold riseT
  simpa using this
/-- Where a string stands or would stand: how many of a rising list are less. -/
def plcS (s : ByteArray) : List ByteArray → Nat
  | [] => 0
  | a :: r => if lessS a s = true then plcS s r + 1 else 0
theorem plcS_le (s : ByteArray) : ∀ L : List ByteArray, plcS s L ≤ L.length
  | [] => Nat.le_refl _
  | a :: r => by
    have := plcS_le s r
    unfold plcS
    split
    · simp only [List.length_cons]; omega
    · exact Nat.zero_le _
/-- The document's and the program's Into, of any list. -/
def intoT (s : ByteArray) (L : List ByteArray) : List ByteArray :=
  if L[plcS s L]? = some s then L else L.take (plcS s L) ++ s :: L.drop (plcS s L)
theorem intoT_ins (s : ByteArray) : ∀ L : List ByteArray, intoT s L = insRs s L
  | [] => rfl
  | a :: r => by
    have ih := intoT_ins s r
    unfold intoT at ih ⊢
    unfold insRs plcS
    by_cases hl : lessS a s = true
    · simp only [hl, if_true, List.getElem?_cons_succ, List.take_succ_cons, List.drop_succ_cons]
      rw [← ih]
      split <;> simp
    · simp only [hl, if_false, Bool.false_eq_true, List.getElem?_cons_zero, List.take_zero, List.drop_zero, List.nil_append]
      by_cases e : a = s
      · subst e; simp
      · have : ¬ some a = some s := fun h => e (Option.some.inj h)
        simp only [this, e, if_false]
theorem plcS_before {s : ByteArray} : ∀ {L : List ByteArray} {j : Nat} (hj : j < L.length), j < plcS s L → lessS L[j] s = true
  | a :: r, 0, _, h => by
    unfold plcS at h
    split at h
    · assumption
    · omega
  | a :: r, j + 1, hj, h => by
    unfold plcS at h
    split at h
    · exact plcS_before (L := r) (by simpa using hj) (by omega)
    · omega
theorem plcS_at {s : ByteArray} : ∀ {L : List ByteArray} (hj : plcS s L < L.length), lessS L[plcS s L] s = false
  | [], hj => by simp at hj
  | a :: r, hj => by
    by_cases hl : lessS a s = true
    · have e : plcS s (a :: r) = plcS s r + 1 := by simp [plcS, hl]
      have hj2 : plcS s r < r.length := by rw [e] at hj; simpa using hj
      have := plcS_at hj2
      simp only [e, List.getElem_cons_succ]
      exact this
    · have e : plcS s (a :: r) = 0 := by simp [plcS, hl]
      simp only [e, List.getElem_cons_zero]
      simpa using hl
theorem plcS_eq {s : ByteArray} {L : List ByteArray} {k : Nat} (hk : k < L.length) (h : lessS L[k] s = false) (hall : ∀ j (hj : j < L.length), j < k → lessS L[j] s = true) : plcS s L = k := by
  rcases Nat.lt_trichotomy (plcS s L) k with c | c | c
  · have h1 := hall (plcS s L) (by omega) c
    rw [plcS_at (by omega)] at h1
    cases h1
  · exact c
  · rw [plcS_before hk c] at h
    cases h
theorem plcS_none {s : ByteArray} {L : List ByteArray} (hall : ∀ j (hj : j < L.length), lessS L[j] s = true) : plcS s L = L.length := by
  rcases Nat.lt_or_ge (plcS s L) L.length with c | c
  · have h1 := hall _ c
    rw [plcS_at c] at h1
    cases h1
  · exact Nat.le_antisymm (plcS_le s L) c
end Go.Proofs.Ytlihcjlonafohaa
