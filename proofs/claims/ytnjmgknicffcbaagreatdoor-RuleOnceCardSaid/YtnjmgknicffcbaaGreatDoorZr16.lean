/- slices.Sort laid at []string. Plain mathematics of the stand-in disk: files, operations, crashes, names. It names no program. Plain mathematics: strings are in one order. It names no program. Plain mathematics: rising lists of strings; an element put in at its place; the rising list of any strings. Plain mathematics: sorted strings; doubles left out. Slices of strings: what a slice value reads as; rows of the call's own. -/
import Derived.Test.YtnjmgknicffcbaaGreatDoorZr01
import Derived.Shelf.SortM.Plain
import Derived.Shelf.SortM.SortNone
import GoSem.Op.String
import Derived.Laws.Strings
import Derived.Sort.Walk0
import Derived.Lib.SlicesCompact
import Derived.Lib.Hide
namespace Go.Proofs.YtnjmgknicffcbaaGreatDoor
open Go.Shelf Go.RowKit Go.Lib Go.Sort
def laysSrt_ren : Go.Shelf.Ren := ⟨fun | 6 => 199 | 8 => 218 | 9 => 217 | 19 => 236 | 20 => 176 | 21 => 228 | 22 => 229 | 23 => 230 | 24 => 231 | 25 => 232 | 26 => 233 | 27 => 165 | 28 => 234 | 29 => 235 | 31 => 240 | 32 => 241 | 36 => 239 | 37 => 242 | 38 => 243 | 39 => 187 | 41 => 244 | n => n, fun | 0 => 0 | 3 => 3 | 4 => 4 | 5 => 5 | 9 => 9 | 26 => 93 | 27 => 93 | 29 => 9 | 32 => 202 | 35 => 262 | 36 => 263 | 41 => 181 | 44 => 215 | 46 => 26 | 53 => 272 | 57 => 276 | 63 => 278 | 64 => 279 | n => n, fun | n => n⟩
set_option maxRecDepth 100000 in
theorem laysSrt : Go.Proofs.SlLaysM.n6 Tryz.prog laysSrt_ren := {
  mixed := by kernel_rfl
  f6 := ⟨Tryz.f199.name, by kernel_rfl, Tryz.func199.trans (congrArg some (by kernel_rfl))⟩
  f8 := Tryz.func218.trans (congrArg some (by kernel_rfl))
  f9 := ⟨Tryz.f217.name, by kernel_rfl, Tryz.func217.trans (congrArg some (by kernel_rfl))⟩
  f19 := Tryz.func236.trans (congrArg some (by kernel_rfl))
  f20 := Tryz.func176.trans (congrArg some (by kernel_rfl))
  f21 := ⟨Tryz.f228.name, by kernel_rfl, Tryz.func228.trans (congrArg some (by kernel_rfl))⟩
  f22 := ⟨Tryz.f229.name, by kernel_rfl, Tryz.func229.trans (congrArg some (by kernel_rfl))⟩
  f23 := ⟨Tryz.f230.name, by kernel_rfl, Tryz.func230.trans (congrArg some (by kernel_rfl))⟩
  f24 := ⟨Tryz.f231.name, by kernel_rfl, Tryz.func231.trans (congrArg some (by kernel_rfl))⟩
  f25 := ⟨Tryz.f232.name, by kernel_rfl, Tryz.func232.trans (congrArg some (by kernel_rfl))⟩
  f26 := ⟨Tryz.f233.name, by kernel_rfl, Tryz.func233.trans (congrArg some (by kernel_rfl))⟩
  f27 := ⟨Tryz.f165.name, by kernel_rfl, Tryz.func165.trans (congrArg some (by kernel_rfl))⟩
  f28 := ⟨Tryz.f234.name, by kernel_rfl, Tryz.func234.trans (congrArg some (by kernel_rfl))⟩
  f29 := ⟨Tryz.f235.name, by kernel_rfl, Tryz.func235.trans (congrArg some (by kernel_rfl))⟩
  f31 := Tryz.func240.trans (congrArg some (by kernel_rfl))
  f32 := Tryz.func241.trans (congrArg some (by kernel_rfl))
  f36 := ⟨Tryz.f239.name, by kernel_rfl, Tryz.func239.trans (congrArg some (by kernel_rfl))⟩
  f37 := ⟨Tryz.f242.name, by kernel_rfl, Tryz.func242.trans (congrArg some (by kernel_rfl))⟩
  f38 := ⟨Tryz.f243.name, by kernel_rfl, Tryz.func243.trans (congrArg some (by kernel_rfl))⟩
  f39 := ⟨Tryz.f187.name, by kernel_rfl, Tryz.func187.trans (congrArg some (by kernel_rfl))⟩
  f41 := ⟨Tryz.f244.name, by kernel_rfl, Tryz.func244.trans (congrArg some (by kernel_rfl))⟩
  t0 := Tryz.underlying0
  a0 := Tryz.isAgg0
  z0 := Tryz.sizeOf0
  v0 := Tryz.zeroValue0
  t3 := Tryz.underlying3
  a3 := Tryz.isAgg3
  z3 := Tryz.sizeOf3
  v3 := Tryz.zeroValue3
  t4 := Tryz.underlying4
  a4 := Tryz.isAgg4
  z4 := Tryz.sizeOf4
  v4 := Tryz.zeroValue4
  t5 := Tryz.underlying5
  a5 := Tryz.isAgg5
  z5 := Tryz.sizeOf5
  v5 := Tryz.zeroValue5
  t9 := Tryz.underlying9
  a9 := Tryz.isAgg9
  z9 := Tryz.sizeOf9
  v9 := Tryz.zeroValue9
  t26 := Tryz.underlying93
  a26 := Tryz.isAgg93
  z26 := Tryz.sizeOf93
  v26 := Tryz.zeroValue93
  t27 := Tryz.underlying93
  a27 := Tryz.isAgg93
  z27 := Tryz.sizeOf93
  v27 := Tryz.zeroValue93
  t29 := Tryz.underlying9
  a29 := Tryz.isAgg9
  z29 := Tryz.sizeOf9
  v29 := Tryz.zeroValue9
  t32 := Tryz.underlying202
  a32 := Tryz.isAgg202
  z32 := Tryz.sizeOf202
  v32 := Tryz.zeroValue202
  t35 := Tryz.underlying262
  a35 := Tryz.isAgg262
  z35 := Tryz.sizeOf262
  v35 := Tryz.zeroValue262
  t36 := Tryz.underlying263
  a36 := Tryz.isAgg263
  z36 := Tryz.sizeOf263
  v36 := Tryz.zeroValue263
  t41 := Tryz.underlying181
  a41 := Tryz.isAgg181
  z41 := Tryz.sizeOf181
  v41 := Tryz.zeroValue181
  t44 := Tryz.underlying215
  a44 := Tryz.isAgg215
  z44 := Tryz.sizeOf215
  v44 := Tryz.zeroValue215
  t46 := Tryz.underlying26
  a46 := Tryz.isAgg26
  z46 := Tryz.sizeOf26
  v46 := Tryz.zeroValue26
  t53 := Tryz.underlying272
  a53 := Tryz.isAgg272
  z53 := Tryz.sizeOf272
  v53 := Tryz.zeroValue272
  t57 := Tryz.underlying276
  a57 := Tryz.isAgg276
  z57 := Tryz.sizeOf276
  v57 := Tryz.zeroValue276
  t63 := Tryz.underlying278
  a63 := Tryz.isAgg278
  z63 := Tryz.sizeOf278
  v63 := Tryz.zeroValue278
  t64 := Tryz.underlying279
  a64 := Tryz.isAgg279
  z64 := Tryz.sizeOf279
  v64 := Tryz.zeroValue279 }
end Go.Proofs.YtnjmgknicffcbaaGreatDoor
namespace Go.Proofs.YtnjmgknicffcbaaGreatDoor

/-- A byte of a name. -/
def nbN (c : Nat) : Bool := decide ((97 ≤ c ∧ c ≤ 122) ∨ (48 ≤ c ∧ c ≤ 57) ∨ c = 46)
def nameL (l : List UInt8) : Bool := decide (1 ≤ l.length ∧ l.length ≤ 32) && l.all fun c => nbN c.toNat
def nameOk (s : ByteArray) : Bool := nameL s.data.toList

structure F where
  name : ByteArray
  kept : ByteArray
  loose : ByteArray
structure O where
  kind : Int
  name : ByteArray
  bytes : ByteArray
  at_ : Int

def F.size (f : F) : Nat := f.kept.size + f.loose.size
def lessS (x y : ByteArray) : Bool := Go.Op.bytesLess x.toList y.toList
/-- Where a file stands: as many as there are, if nowhere. -/
def findF (L : List F) (nm : ByteArray) : Nat := L.findIdx fun f => eqS f.name nm
/-- Where a new one goes. -/
def placeF (L : List F) (nm : ByteArray) : Nat := L.findIdx fun f => !lessS f.name nm
/-- One operation: the error's number (0: none), and the files behind it. -/
def stepAt (L : List F) (o : O) (i : Nat) : Nat × List F :=
  match L[i]? with
  | none =>
    if o.kind = 1 then
      if 64 ≤ L.length then (4, L)
      else if 1048576 < o.bytes.size then (2, L)
      else (0, L.insertIdx (placeF L o.name) ⟨o.name, ⟨#[]⟩, o.bytes⟩)
    else (30, L)
  | some f =>
    if o.kind = 1 then
      if 1048576 < f.size + o.bytes.size then (2, L)
      else (0, L.set i ⟨f.name, f.kept, f.loose ++ o.bytes⟩)
    else if o.kind = 2 then (0, L.set i ⟨f.name, f.kept ++ f.loose, ⟨#[]⟩⟩)
    else if o.kind = 3 then
      if o.at_ < 0 ∨ (f.size : Int) < o.at_ then (1, L)
      else (0, L.set i ⟨f.name, (f.kept ++ f.loose).extract 0 o.at_.toNat, ⟨#[]⟩⟩)
    else (0, L.eraseIdx i)
def badOp (o : O) : Prop := o.kind < 1 ∨ 4 < o.kind ∨ nameOk o.name = false
instance (o : O) : Decidable (badOp o) := inferInstanceAs (Decidable (_ ∨ _ ∨ _))
def step (L : List F) (o : O) : Nat × List F := if badOp o then (1, L) else stepAt L o (findF L o.name)

/-- The list, up to the first that is refused: the files, how many were done, the error's number. -/
def run : List F → List O → List F × Nat × Nat
  | L, [] => (L, 0, 0)
  | L, o :: r => if (step L o).1 = 0 then let x := run (step L o).2 r; (x.1, x.2.1 + 1, x.2.2) else (L, 0, (step L o).1)
/-- Sizes that a machine bears. -/
def FitF (f : F) : Prop := f.name.size ≤ 281474976710656 ∧ f.size ≤ 281474976710656
def Fit (L : List F) : Prop := ∀ f ∈ L, FitF f
theorem Fit.at_ {L : List F} (h : Fit L) {i : Nat} (hi : i < L.length) : FitF L[i] := h _ (List.getElem_mem hi)
theorem Fit.set {L : List F} (h : Fit L) (i : Nat) {f : F} (hf : FitF f) : Fit (L.set i f) := by
  intro g hg
  rcases List.mem_or_eq_of_mem_set hg with h1 | h1
  · exact h g h1
  · subst h1; exact hf
theorem eqS_ne {x y : ByteArray} (h : x ≠ y) : eqS x y = false := by
  rw [Bool.eq_false_iff]
  exact fun e => h (eqS_iff.1 e)
theorem append_nil (s : ByteArray) : s ++ (⟨#[]⟩ : ByteArray) = s := by
  apply ByteArray.ext
  rw [ByteArray.data_append]
  simp
theorem nil_append (s : ByteArray) : (⟨#[]⟩ : ByteArray) ++ s = s := by
  apply ByteArray.ext
  rw [ByteArray.data_append]
  simp
end Go.Proofs.YtnjmgknicffcbaaGreatDoor
namespace Go.Proofs.YtnjmgknicffcbaaGreatDoor
open Go.Op

theorem less_irrefl : ∀ a : List UInt8, bytesLess a a = false
  | [] => rfl
  | x :: a => by
    unfold bytesLess
    rw [less_irrefl a, Bool.and_false, Bool.or_false, decide_eq_false_iff_not]
    exact fun h => absurd h (UInt8.lt_irrefl x)
theorem less_trans : ∀ a b c : List UInt8, bytesLess a b = true → bytesLess b c = true → bytesLess a c = true
  | _, [], _, h, _ => by unfold bytesLess at h; cases h
  | _, _ :: _, [], _, h => by unfold bytesLess at h; cases h
  | [], _ :: _, _ :: _, _, _ => rfl
  | x :: a, y :: b, z :: c, h, k => by
    unfold bytesLess at h k ⊢
    simp only [Bool.or_eq_true, Bool.and_eq_true, decide_eq_true_eq, beq_iff_eq] at h k ⊢
    rcases h with h | ⟨rfl, h⟩
    · rcases k with k | ⟨rfl, k⟩
      · exact .inl (UInt8.lt_trans h k)
      · exact .inl h
    · rcases k with k | ⟨rfl, k⟩
      · exact .inl k
      · exact .inr ⟨rfl, less_trans a b c h k⟩
theorem less_total : ∀ a b : List UInt8, bytesLess a b = true ∨ a = b ∨ bytesLess b a = true
  | [], [] => .inr (.inl rfl)
  | [], _ :: _ => .inl rfl
  | _ :: _, [] => .inr (.inr rfl)
  | x :: a, y :: b => by
    unfold bytesLess
    simp only [Bool.or_eq_true, Bool.and_eq_true, decide_eq_true_eq, beq_iff_eq]
    rcases Nat.lt_trichotomy x.toNat y.toNat with h | h | h
    · exact .inl (.inl (UInt8.lt_iff_toNat_lt.2 h))
    · have e : x = y := UInt8.toNat_inj.1 h
      subst e
      rcases less_total a b with k | k | k
      · exact .inl (.inr ⟨rfl, k⟩)
      · exact .inr (.inl (by rw [k]))
      · exact .inr (.inr (.inr ⟨rfl, k⟩))
    · exact .inr (.inr (.inl (UInt8.lt_iff_toNat_lt.2 h)))
theorem lessS_irrefl (x : ByteArray) : lessS x x = false := less_irrefl _
theorem lessS_trans {x y z : ByteArray} (h : lessS x y = true) (k : lessS y z = true) : lessS x z = true := less_trans _ _ _ h k
theorem lessS_total (x y : ByteArray) : lessS x y = true ∨ x = y ∨ lessS y x = true := by
  rcases less_total x.toList y.toList with h | h | h
  · exact .inl h
  · refine .inr (.inl (eqS_iff.1 ?_))
    unfold eqS
    rw [h]
    simp
  · exact .inr (.inr h)
theorem lessS_asymm {x y : ByteArray} (h : lessS x y = true) : lessS y x = false := by
  rw [Bool.eq_false_iff]
  intro k
  have := lessS_trans h k
  rw [lessS_irrefl] at this
  cases this
end Go.Proofs.YtnjmgknicffcbaaGreatDoor
namespace Go.Proofs.YtnjmgknicffcbaaGreatDoor

/-- Each is less than the ones behind it. -/
def RisingS (L : List ByteArray) : Prop := L.Pairwise fun a b => lessS a b = true
/-- A string more, at its place, once. -/
def insRs (s : ByteArray) : List ByteArray → List ByteArray
  | [] => [s]
  | a :: r => if lessS a s = true then a :: insRs s r else if a = s then a :: r else s :: a :: r
/-- The rising list of these strings. -/
def riseT (T : List ByteArray) : List ByteArray := T.foldl (fun L s => insRs s L) []
theorem mem_insRs {x s : ByteArray} : ∀ {L : List ByteArray}, x ∈ insRs s L ↔ x = s ∨ x ∈ L
  | [] => by simp [insRs]
  | a :: r => by
    have ih := mem_insRs (x := x) (s := s) (L := r)
    unfold insRs
    split
    · rw [List.mem_cons, ih, List.mem_cons]
      constructor
      · rintro (h | h | h)
        · exact .inr (.inl h)
        · exact .inl h
        · exact .inr (.inr h)
      · rintro (h | h | h)
        · exact .inr (.inl h)
        · exact .inl h
        · exact .inr (.inr h)
    · split
      · next h => subst h; simp
      · simp
theorem insRs_rising {s : ByteArray} : ∀ {L : List ByteArray}, RisingS L → RisingS (insRs s L)
  | [], _ => by unfold insRs RisingS; exact List.pairwise_singleton _ _
  | a :: r, h => by
    obtain ⟨h1, h2⟩ := List.pairwise_cons.1 h
    have ih := insRs_rising (s := s) h2
    unfold insRs
    split
    · next hl =>
      refine List.pairwise_cons.2 ⟨fun x hx => ?_, ih⟩
      rcases mem_insRs.1 hx with rfl | hx
      · exact hl
      · exact h1 x hx
    · next hl =>
      split
      · exact h
      · next hne =>
        have hsa : lessS s a = true := by
          rcases lessS_total s a with k | k | k
          · exact k
          · exact absurd k.symm hne
          · exact absurd k hl
        refine List.pairwise_cons.2 ⟨fun x hx => ?_, h⟩
        rcases List.mem_cons.1 hx with rfl | hx
        · exact hsa
        · exact lessS_trans hsa (h1 x hx)
theorem risingS_nil : RisingS [] := List.Pairwise.nil
theorem foldIns_rising : ∀ (T : List ByteArray) {A : List ByteArray}, RisingS A → RisingS (T.foldl (fun L s => insRs s L) A)
  | [], _, h => h
  | _ :: T, _, h => foldIns_rising T (insRs_rising h)
theorem mem_foldIns {x : ByteArray} : ∀ (T A : List ByteArray), x ∈ T.foldl (fun L s => insRs s L) A ↔ x ∈ T ∨ x ∈ A
  | [], A => by simp
  | s :: T, A => by
    rw [List.foldl_cons, mem_foldIns T (insRs s A), mem_insRs, List.mem_cons]
    constructor
    · rintro (h | h | h)
      · exact .inl (.inr h)
      · exact .inl (.inl h)
      · exact .inr h
    · rintro ((h | h) | h)
      · exact .inr (.inl h)
      · exact .inl h
      · exact .inr (.inr h)
theorem riseT_rising (T : List ByteArray) : RisingS (riseT T) := foldIns_rising T risingS_nil
theorem mem_riseT {x : ByteArray} {T : List ByteArray} : x ∈ riseT T ↔ x ∈ T := by
  unfold riseT
  rw [mem_foldIns]
  simp
/-- Rising lists of the same strings are one list. -/
theorem risingS_ext : ∀ {A B : List ByteArray}, RisingS A → RisingS B → (∀ x, x ∈ A ↔ x ∈ B) → A = B
  | [], [], _, _, _ => rfl
  | [], b :: B, _, _, h => by have := (h b).2 (by simp); cases this
  | a :: A, [], _, _, h => by have := (h a).1 (by simp); cases this
  | a :: A, b :: B, ha, hb, h => by
    obtain ⟨a1, a2⟩ := List.pairwise_cons.1 ha
    obtain ⟨b1, b2⟩ := List.pairwise_cons.1 hb
    have e : a = b := by
      rcases List.mem_cons.1 ((h a).1 (by simp)) with k | k
      · exact k
      · rcases List.mem_cons.1 ((h b).2 (by simp)) with q | q
        · exact q.symm
        · have c1 := b1 a k
          have c2 := a1 b q
          rw [lessS_asymm c2] at c1
          cases c1
    subst e
    have hr : A = B := risingS_ext a2 b2 fun x => by
      constructor
      · intro hx
        rcases List.mem_cons.1 ((h x).1 (List.mem_cons_of_mem _ hx)) with k | k
        · have := a1 x hx
          rw [k, lessS_irrefl] at this
          cases this
        · exact k
      · intro hx
        rcases List.mem_cons.1 ((h x).2 (List.mem_cons_of_mem _ hx)) with k | k
        · have := b1 x hx
          rw [k, lessS_irrefl] at this
          cases this
        · exact k
    rw [hr]
theorem riseT_uniq {R T : List ByteArray} (h : RisingS R) (hm : ∀ x, x ∈ R ↔ x ∈ T) : R = riseT T :=
  risingS_ext h (riseT_rising T) fun x => (hm x).trans mem_riseT.symm
theorem RisingS.filter {L : List ByteArray} (h : RisingS L) (p : ByteArray → Bool) : RisingS (L.filter p) := List.Pairwise.filter p h
theorem insRs_len (s : ByteArray) : ∀ L : List ByteArray, (insRs s L).length ≤ L.length + 1
  | [] => Nat.le_refl _
  | a :: r => by
    have := insRs_len s r
    unfold insRs
    split
    · simp only [List.length_cons]; omega
    · split
      · simp only [List.length_cons]; omega
      · simp only [List.length_cons]; omega
theorem foldIns_len : ∀ (T A : List ByteArray), (T.foldl (fun L s => insRs s L) A).length ≤ T.length + A.length
  | [], A => by simp
  | s :: T, A => by
    have h1 := foldIns_len T (insRs s A)
    have h2 := insRs_len s A
    rw [List.foldl_cons, List.length_cons]
    omega
theorem riseT_len (T : List ByteArray) : (riseT T).length ≤ T.length := by
  have := foldIns_len T []
  unfold riseT
  simpa using this
end Go.Proofs.YtnjmgknicffcbaaGreatDoor
namespace Go.Proofs.YtnjmgknicffcbaaGreatDoor
open Go.Lib

def ltoB (l : List UInt8) : ByteArray := ⟨l.toArray⟩
def btoL (s : ByteArray) : List UInt8 := s.data.toList
theorem ltoB_btoL (s : ByteArray) : ltoB (btoL s) = s := by cases s; simp [ltoB, btoL]
theorem btoL_ltoB (l : List UInt8) : btoL (ltoB l) = l := by simp [ltoB, btoL]
theorem btoL_inj {a b : ByteArray} (h : btoL a = btoL b) : a = b := by rw [← ltoB_btoL a, ← ltoB_btoL b, h]
theorem lessS_lt (a b : ByteArray) : lessS a b = decide (btoL a < btoL b) := by
  unfold lessS
  rw [Go.Proofs.bytesLess_eq, Lib.toList_data, Lib.toList_data]
  rfl
theorem lessS_ltoB (a b : List UInt8) : lessS (ltoB a) (ltoB b) = decide (a < b) := by rw [lessS_lt, btoL_ltoB, btoL_ltoB]
/-- The strings, sorted. -/
def sortL (T : List ByteArray) : List (List UInt8) := (T.map btoL).mergeSort fun x y => decide (x ≤ y)
def sortT (T : List ByteArray) : List ByteArray := (sortL T).map ltoB
theorem sortL_perm (T : List ByteArray) : (sortL T).Perm (T.map btoL) := List.mergeSort_perm _ _
theorem sortT_perm (T : List ByteArray) : (sortT T).Perm T := by
  unfold sortT
  have h := (sortL_perm T).map ltoB
  rw [List.map_map] at h
  have e : T.map (ltoB ∘ btoL) = T := by
    conv => rhs; rw [← List.map_id T]
    exact List.map_congr_left fun s _ => ltoB_btoL s
  rw [e] at h
  exact h
theorem sortT_len (T : List ByteArray) : (sortT T).length = T.length := (sortT_perm T).length_eq
theorem mem_sortT {x : ByteArray} {T : List ByteArray} : x ∈ sortT T ↔ x ∈ T := (sortT_perm T).mem_iff
theorem sortL_flat (T : List ByteArray) : (sortL T).Pairwise fun a b => a ≤ b := by
  have h := List.pairwise_mergeSort (le := fun x y : List UInt8 => decide (x ≤ y)) (fun a b c h k => by
    simp only [decide_eq_true_eq] at h k ⊢
    exact List.le_trans h k) (fun a b => by
    simp only [Bool.or_eq_true, decide_eq_true_eq]
    exact List.le_total a b) (T.map btoL)
  exact h.imp fun {a b} h => by simpa using h
theorem sortT_flat (T : List ByteArray) : (sortT T).Pairwise fun a b => lessS b a = false := by
  unfold sortT
  rw [List.pairwise_map]
  refine (sortL_flat T).imp fun {a b} h => ?_
  rw [lessS_ltoB]
  simpa using h
/-- Doubles that stand side by side, left out. -/
def compT (T : List ByteArray) : List ByteArray := compactUpTo T.toArray T.length
theorem flat_get {T : List ByteArray} (h : T.Pairwise fun a b => lessS b a = false) {i j : Nat} (hij : i ≤ j) (hj : j < T.length) : T[i] = T[j] ∨ lessS T[i] T[j] = true := by
  rcases Nat.lt_or_eq_of_le hij with c | c
  · have := List.pairwise_iff_getElem.1 h i j (by omega) hj c
    rcases lessS_total T[i] T[j] with q | q | q
    · exact .inr q
    · exact .inl q
    · rw [q] at this; cases this
  · subst c; exact .inl rfl
theorem compT_rising {T : List ByteArray} (h : T.Pairwise fun a b => lessS b a = false) : RisingS (compT T) := by
  unfold compT compactUpTo RisingS
  rw [List.pairwise_map, List.pairwise_filter]
  refine List.Pairwise.imp_of_mem (R := fun a b => a < b) (fun {a b} ha hb hab _ hk => ?_) List.pairwise_lt_range
  have hbl : b < T.length := by simpa using hb
  have e1 : T.toArray[a]! = T[a] := by simp [show a < T.length by omega]
  have e2 : T.toArray[b]! = T[b] := by simp [hbl]
  have e3 : T.toArray[b - 1]! = T[b - 1] := by simp [show b - 1 < T.length by omega]
  unfold keeps at hk
  simp only [decide_eq_true_eq] at hk
  rw [e1, e2]
  rw [e2, e3] at hk
  have hne : T[b] ≠ T[b - 1] := by
    rcases hk with k | k
    · omega
    · exact k
  have hlast : lessS T[b - 1] T[b] = true := by
    rcases flat_get h (i := b - 1) (j := b) (by omega) hbl with q | q
    · exact absurd q.symm hne
    · exact q
  rcases flat_get h (i := a) (j := b - 1) (by omega) (by omega) with q | q
  · rw [q]; exact hlast
  · exact lessS_trans q hlast
theorem firstOf {T : List ByteArray} {x : ByteArray} (hx : x ∈ T) : ∃ (q : Nat) (hq : q < T.length), T[q] = x ∧ ∀ j (hj : j < T.length), j < q → T[j] ≠ x := by
  have hf := List.findIdx_lt_length_of_exists (p := fun y : ByteArray => decide (y = x)) (xs := T) ⟨x, hx, by simp⟩
  refine ⟨_, hf, ?_, fun j hj hlt => ?_⟩
  · have h1 := List.findIdx_getElem (p := fun y : ByteArray => decide (y = x)) (w := hf)
    simpa using h1
  · have h2 := List.not_of_lt_findIdx (p := fun y : ByteArray => decide (y = x)) (xs := T) (i := j) hlt
    simpa using h2
theorem mem_compT {T : List ByteArray} {x : ByteArray} : x ∈ compT T ↔ x ∈ T := by
  unfold compT compactUpTo
  rw [List.mem_map]
  constructor
  · rintro ⟨j, hj, rfl⟩
    have hjl : j < T.length := by simpa using (List.mem_filter.1 hj).1
    have e : T.toArray[j]! = T[j] := by simp [hjl]
    rw [e]
    exact List.getElem_mem hjl
  · intro hx
    obtain ⟨q, hq, h1, h2⟩ := firstOf hx
    have e1 : T.toArray[q]! = T[q] := by simp [hq]
    refine ⟨q, ?_, by rw [e1, h1]⟩
    rw [List.mem_filter]
    refine ⟨by simpa using hq, ?_⟩
    unfold keeps
    simp only [decide_eq_true_eq]
    rcases Nat.eq_zero_or_pos q with c | c
    · exact .inl c
    · refine .inr ?_
      have e2 : T.toArray[q - 1]! = T[q - 1] := by simp [show q - 1 < T.length by omega]
      rw [e1, e2, h1]
      exact fun e => h2 (q - 1) (by omega) (by omega) e.symm
theorem compT_sort (T : List ByteArray) : compT (sortT T) = riseT T :=
  riseT_uniq (compT_rising (sortT_flat T)) fun _ => mem_compT.trans mem_sortT
end Go.Proofs.YtnjmgknicffcbaaGreatDoor
namespace Go.Proofs.YtnjmgknicffcbaaGreatDoor
open Go.RowKit

/-- The slice value v reads as the strings L. -/
def SV (w : World) (v : Value) (L : List ByteArray) : Prop :=
  ∃ A c, v = .slice A L.length c ∧ L.length ≤ c ∧ (c ≤ maxLen ∧ (A = Option.none → c = 0)) ∧ ∀ j (hj : j < L.length), ∃ b off, A = some ⟨b, off, none⟩ ∧ w.cell? ⟨b, off + j, none⟩ = some (.string L[j])

theorem SV.gr {w w' : World} {v : Value} {L : List ByteArray} (h : SV w v L) (g : Gr w w') : SV w' v L := by
  obtain ⟨A, c, hv, h1, h2, h3⟩ := h
  refine ⟨A, c, hv, h1, h2, fun j hj => ?_⟩
  obtain ⟨b, off, ha, hc⟩ := h3 j hj
  exact ⟨b, off, ha, g.cell hc⟩
theorem SV.nil (w : World) : SV w (.slice none 0 0) [] := ⟨none, 0, rfl, Nat.le_refl _, ⟨Nat.zero_le _, fun _ => rfl⟩, fun j hj => absurd hj (by simp)⟩

theorem SV.of_own {w : World} {base : Nat} {e : TypeId} {v : Value} {L : List ByteArray} (h : w.ownsRow base e 1 v L.length (L.map Value.string)) : SV w v L := by
  rcases h.2 with ⟨rfl, h0⟩ | ⟨g, cap, cur, rfl, hb, hg, hn, hm, hc, ht⟩
  · have : L = [] := List.length_eq_zero_iff.1 h0
    subst this
    exact SV.nil w
  · refine ⟨_, cap, rfl, hn, ⟨hm, fun h => by cases h⟩, fun j hj => ⟨g, 0, rfl, ?_⟩⟩
    rw [Nat.zero_add, h.cellAt j (by omega)]
    simp [hj]
theorem infoString : (Tryz.prog.info? 9).map (fun i => (i.zero, i.size, i.bytes)) = some (some (.string ⟨#[]⟩), 1, 16) := by kernel_rfl

end Go.Proofs.YtnjmgknicffcbaaGreatDoor
