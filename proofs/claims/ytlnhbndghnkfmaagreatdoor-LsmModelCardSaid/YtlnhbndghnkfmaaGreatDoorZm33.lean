/- Plain mathematics of changes: rising lists, a change more, of each key the last one. The library's stable sort, at changes: the comparison by keys. Plain mathematics of the library's stable sort: blocks in order, merged two by two. -/
import Derived.Test.YtlnhbndghnkfmaaGreatDoorZm05
import Derived.Test.YtlnhbndghnkfmaaGreatDoorZm31
import Derived.Lib.Bytealg
import Derived.Test.YtlnhbndghnkfmaaGreatDoorZm30
namespace Go.Proofs.YtlnhbndghnkfmaaGreatDoor

/-- A change more in a rising list. -/
def putC : List CR → CR → List CR
  | [], c => [c]
  | x :: l, c => if lessS x.key c.key then x :: putC l c else if eqS x.key c.key then c :: l else c :: x :: l
def rising (L : List CR) : Prop := L.Pairwise fun a b => lessS a.key b.key = true
/-- What a rising list says of a key. -/
def look (L : List CR) (k : ByteArray) : Option CR := L.find? fun c => eqS c.key k
theorem look_nil (k : ByteArray) : look [] k = none := rfl
theorem look_cons (c : CR) (L : List CR) (k : ByteArray) : look (c :: L) k = if eqS c.key k then some c else look L k := by
  unfold look
  rw [List.find?_cons]
  cases eqS c.key k <;> rfl
theorem look_key {L : List CR} {k : ByteArray} {c : CR} (h : look L k = some c) : c.key = k ∧ c ∈ L := by
  unfold look at h
  have h1 := List.find?_some h
  exact ⟨eqS_iff.1 h1, List.mem_of_find?_eq_some h⟩
theorem look_none {L : List CR} {k : ByteArray} (h : ∀ c ∈ L, c.key ≠ k) : look L k = none := by
  unfold look
  rw [List.find?_eq_none]
  exact fun c hc e => h c hc (eqS_iff.1 e)
theorem look_none_iff {L : List CR} {k : ByteArray} : look L k = none ↔ ∀ c ∈ L, c.key ≠ k := by
  refine ⟨fun h c hc e => ?_, look_none⟩
  unfold look at h
  rw [List.find?_eq_none] at h
  exact h c hc (eqS_iff.2 e)
theorem look_append (A B : List CR) (k : ByteArray) : look (A ++ B) k = (look A k).or (look B k) := by
  unfold look
  rw [List.find?_append]
theorem rising_cons {c : CR} {L : List CR} (h : rising (c :: L)) : (∀ x ∈ L, lessS c.key x.key = true) ∧ rising L := List.pairwise_cons.1 h
theorem look_self {L : List CR} (h : rising L) {c : CR} (hc : c ∈ L) : look L c.key = some c := by
  induction L with
  | nil => cases hc
  | cons x L ih =>
    obtain ⟨h1, h2⟩ := rising_cons h
    rw [look_cons]
    rcases List.mem_cons.1 hc with rfl | hc
    · rw [eqS_self, if_pos rfl]
    · rw [eqS_ne (lessS_ne (h1 c hc)), if_neg (by decide)]
      exact ih h2 hc
/-- Rising lists that say the same of each key are one list. -/
theorem rising_ext {A : List CR} : ∀ {B : List CR}, rising A → rising B → (∀ k, look A k = look B k) → A = B := by
  induction A with
  | nil =>
    intro B _ _ h
    cases B with
    | nil => rfl
    | cons y B =>
      have := h y.key
      rw [look_cons, eqS_self, if_pos rfl] at this
      cases this
  | cons x A ih =>
    intro B hA hB h
    obtain ⟨a1, a2⟩ := rising_cons hA
    cases B with
    | nil =>
      have := h x.key
      rw [look_cons, eqS_self, if_pos rfl] at this
      cases this
    | cons y B =>
      obtain ⟨b1, b2⟩ := rising_cons hB
      have hk : x.key = y.key := by
        rcases lessS_total x.key y.key with q | q | q
        · exfalso
          have e := h x.key
          rw [look_cons, eqS_self, if_pos rfl, look_cons, eqS_ne (lessS_ne q).symm, if_neg (by decide), look_none (fun c hc => (lessS_ne (lessS_trans q (b1 c hc))).symm)] at e
          cases e
        · exact q
        · exfalso
          have e := h y.key
          rw [look_cons y, eqS_self, if_pos rfl, look_cons, eqS_ne (lessS_ne q).symm, if_neg (by decide), look_none (fun c hc => (lessS_ne (lessS_trans q (a1 c hc))).symm)] at e
          cases e
      have hxy : x = y := by
        have e := h x.key
        rw [look_cons, eqS_self, if_pos rfl, look_cons, hk, eqS_self, if_pos rfl] at e
        exact Option.some.inj e
      subst hxy
      congr 1
      refine ih a2 b2 (fun k => ?_)
      have e := h k
      rw [look_cons, look_cons] at e
      by_cases q : x.key = k
      · rw [look_none (fun c hc => by rw [← q]; exact (lessS_ne (a1 c hc)).symm), look_none (fun c hc => by rw [← q]; exact (lessS_ne (b1 c hc)).symm)]
      · rw [eqS_ne q, if_neg (by decide), if_neg (by decide)] at e
        exact e
theorem putC_mem {L : List CR} {c x : CR} (h : x ∈ putC L c) : x = c ∨ x ∈ L := by
  induction L with
  | nil => exact .inl (List.mem_singleton.1 h)
  | cons y L ih =>
    unfold putC at h
    split at h
    · rcases List.mem_cons.1 h with rfl | h
      · exact .inr (List.mem_cons_self ..)
      · rcases ih h with q | q
        · exact .inl q
        · exact .inr (List.mem_cons_of_mem _ q)
    · split at h
      · rcases List.mem_cons.1 h with q | h
        · exact .inl q
        · exact .inr (List.mem_cons_of_mem _ h)
      · rcases List.mem_cons.1 h with q | h
        · exact .inl q
        · exact .inr h
theorem putC_rising {L : List CR} (c : CR) (h : rising L) : rising (putC L c) := by
  induction L with
  | nil => exact List.pairwise_singleton _ _
  | cons y L ih =>
    obtain ⟨h1, h2⟩ := rising_cons h
    unfold putC
    split
    · rename_i q
      refine List.pairwise_cons.2 ⟨fun x hx => ?_, ih h2⟩
      rcases putC_mem hx with rfl | hx
      · exact q
      · exact h1 x hx
    · rename_i q
      split
      · rename_i q2
        have e := eqS_iff.1 q2
        exact List.pairwise_cons.2 ⟨fun x hx => by rw [← e]; exact h1 x hx, h2⟩
      · rename_i q2
        have q3 : lessS c.key y.key = true := by
          rcases lessS_total y.key c.key with e | e | e
          · exact absurd e q
          · exact absurd (eqS_iff.2 e) q2
          · exact e
        refine List.pairwise_cons.2 ⟨fun x hx => ?_, h⟩
        rcases List.mem_cons.1 hx with rfl | hx
        · exact q3
        · exact lessS_trans q3 (h1 x hx)
theorem look_putC {L : List CR} (c : CR) (k : ByteArray) (h : rising L) : look (putC L c) k = if eqS c.key k then some c else look L k := by
  induction L with
  | nil => exact look_cons c [] k
  | cons y L ih =>
    obtain ⟨h1, h2⟩ := rising_cons h
    unfold putC
    split
    · rename_i q
      rw [look_cons, look_cons, ih h2]
      by_cases e : y.key = k
      · rw [e, eqS_self, if_pos rfl, if_pos rfl, eqS_ne (by rw [← e]; exact (lessS_ne q).symm), if_neg (by decide)]
      · simp only [eqS_ne e, Bool.false_eq_true, if_false]
    · split
      · rename_i q2
        have e := eqS_iff.1 q2
        rw [look_cons, look_cons, e]
        by_cases q : c.key = k
        · rw [q, eqS_self, if_pos rfl, if_pos rfl]
        · rw [eqS_ne q, if_neg (by decide), if_neg (by decide), if_neg (by decide)]
      · rw [look_cons]
/-- All of these changes, one behind the other. -/
def puts (A L : List CR) : List CR := L.foldl putC A
theorem puts_cons (A : List CR) (c : CR) (L : List CR) : puts A (c :: L) = puts (putC A c) L := rfl
theorem puts_append (A L M : List CR) : puts A (L ++ M) = puts (puts A L) M := by unfold puts; rw [List.foldl_append]
theorem puts_rising {A : List CR} (L : List CR) (h : rising A) : rising (puts A L) := by
  induction L generalizing A with
  | nil => exact h
  | cons c L ih => exact ih (putC_rising c h)
theorem rising_nil : rising [] := List.Pairwise.nil
/-- The last change of a key. -/
def lastK (L : List CR) (k : ByteArray) : Option CR := look L.reverse k
theorem lastK_cons (c : CR) (L : List CR) (k : ByteArray) : lastK (c :: L) k = (lastK L k).or (if eqS c.key k then some c else none) := by
  unfold lastK
  rw [List.reverse_cons, look_append, look_cons, look_nil]
theorem lastK_append (A B : List CR) (k : ByteArray) : lastK (A ++ B) k = (lastK B k).or (lastK A k) := by
  unfold lastK
  rw [List.reverse_append, look_append]
theorem look_puts {A : List CR} (L : List CR) (k : ByteArray) (h : rising A) : look (puts A L) k = (lastK L k).or (look A k) := by
  induction L generalizing A with
  | nil => rfl
  | cons c L ih =>
    rw [puts_cons, ih (putC_rising c h), look_putC c k h, lastK_cons]
    cases lastK L k with
    | some x => rfl
    | none => cases eqS c.key k <;> rfl
theorem lastK_rising {L : List CR} (h : rising L) (k : ByteArray) : lastK L k = look L k := by
  induction L with
  | nil => rfl
  | cons x L ih =>
    obtain ⟨h1, h2⟩ := rising_cons h
    rw [lastK_cons, look_cons, ih h2]
    by_cases e : x.key = k
    · rw [e, eqS_self, if_pos rfl, look_none (fun c hc => by rw [← e]; exact (lessS_ne (h1 c hc)).symm)]
      rfl
    · rw [eqS_ne e, if_neg (by decide), if_neg (by decide)]
      cases look L k <;> rfl
theorem puts_self {L : List CR} (h : rising L) : puts [] L = L := rising_ext (puts_rising L rising_nil) h fun k => by
  rw [look_puts L k rising_nil, lastK_rising h, look_nil]
  cases look L k <;> rfl
theorem lastK_mem {L : List CR} {k : ByteArray} {c : CR} (h : lastK L k = some c) : c.key = k ∧ c ∈ L := by
  have := look_key h
  exact ⟨this.1, List.mem_reverse.1 this.2⟩
theorem lastK_none_of {L : List CR} {k : ByteArray} (h : ∀ c ∈ L, c.key ≠ k) : lastK L k = none := look_none fun c hc => h c (List.mem_reverse.1 hc)
theorem lastK_none_iff {L : List CR} {k : ByteArray} : lastK L k = none ↔ ∀ c ∈ L, c.key ≠ k :=
  ⟨fun h c hc => look_none_iff.1 h c (List.mem_reverse.2 hc), lastK_none_of⟩
theorem lastK_at {L : List CR} {k : ByteArray} {c : CR} (h : lastK L k = some c) : ∃ (i : Nat) (hi : i < L.length), L[i] = c ∧ c.key = k ∧ ∀ j (hj : j < L.length), i < j → L[j].key ≠ k := by
  induction L with
  | nil => cases h
  | cons x L ih =>
    rw [lastK_cons] at h
    cases hl : lastK L k with
    | some y =>
      rw [hl] at h
      have e : y = c := Option.some.inj h
      subst e
      obtain ⟨i, hi, h1, h2, h3⟩ := ih hl
      refine ⟨i + 1, by simpa using hi, by simpa using h1, h2, fun j hj hij => ?_⟩
      cases j with
      | zero => omega
      | succ j => exact h3 j (by simpa using hj) (by omega)
    | none =>
      rw [hl] at h
      have hn := lastK_none_iff.1 hl
      by_cases e : x.key = k
      · rw [e, eqS_self, if_pos rfl] at h
        have e2 : x = c := Option.some.inj h
        subst e2
        refine ⟨0, by simp, rfl, e, fun j hj hij => ?_⟩
        cases j with
        | zero => omega
        | succ j => exact hn _ (List.getElem_mem _)
      · rw [eqS_ne e, if_neg (by decide)] at h
        cases h
theorem lastK_of {L : List CR} {k : ByteArray} : ∀ {i : Nat} (hi : i < L.length), L[i].key = k → (∀ j (hj : j < L.length), i < j → L[j].key ≠ k) → lastK L k = some L[i] := by
  induction L with
  | nil => intro i hi; exact absurd hi (Nat.not_lt_zero _)
  | cons x L ih =>
    intro i hi h1 h2
    rw [lastK_cons]
    cases i with
    | zero =>
      rw [lastK_none_of (L := L) (fun c hc => by
        obtain ⟨j, hj, e⟩ := List.mem_iff_getElem.1 hc
        rw [← e]
        exact h2 (j + 1) (by simpa using hj) (by omega))]
      have e : x.key = k := h1
      rw [e, eqS_self, if_pos rfl]
      rfl
    | succ i =>
      rw [ih (i := i) (by simpa using hi) h1 (fun j hj hij => h2 (j + 1) (by simpa using hj) (by omega))]
      rfl
theorem puts_len (A L : List CR) : (puts A L).length ≤ A.length + L.length := by
  induction L generalizing A with
  | nil => exact Nat.le_refl _
  | cons c L ih =>
    have h1 : ∀ A : List CR, (putC A c).length ≤ A.length + 1 := fun A => by
      induction A with
      | nil => exact Nat.le_refl _
      | cons y A ih =>
        unfold putC
        split
        · simp only [List.length_cons]; omega
        · split <;> simp
    have := ih (putC A c)
    have := h1 A
    rw [puts_cons, List.length_cons]
    omega
theorem puts_mem {A L : List CR} {x : CR} (h : x ∈ puts A L) : x ∈ A ∨ x ∈ L := by
  induction L generalizing A with
  | nil => exact .inl h
  | cons c L ih =>
    rcases ih (A := putC A c) h with q | q
    · rcases putC_mem q with rfl | q
      · exact .inr (List.mem_cons_self ..)
      · exact .inl q
    · exact .inr (List.mem_cons_of_mem _ q)

/-- Of neighbours of one key the last one. -/
def lastsC : List CR → List CR
  | [] => []
  | [x] => [x]
  | x :: y :: r => if eqS y.key x.key then lastsC (y :: r) else x :: lastsC (y :: r)
theorem lastsC_two (x y : CR) (r : List CR) : lastsC (x :: y :: r) = if eqS y.key x.key then lastsC (y :: r) else x :: lastsC (y :: r) := rfl
/-- No key goes down. -/
def flatC (L : List CR) : Prop := L.Pairwise fun a b => lessS b.key a.key = false
theorem lastsC_mem : ∀ {L : List CR} {x : CR}, x ∈ lastsC L → x ∈ L
  | [], _, h => h
  | [_], _, h => h
  | a :: b :: r, x, h => by
    rw [lastsC_two] at h
    split at h
    · exact List.mem_cons_of_mem _ (lastsC_mem h)
    · rcases List.mem_cons.1 h with rfl | h
      · exact List.mem_cons_self ..
      · exact List.mem_cons_of_mem _ (lastsC_mem h)
theorem lessS_of {x y : ByteArray} (h : lessS y x = false) (hn : y ≠ x) : lessS x y = true := by
  rcases lessS_total x y with e | e | e
  · exact e
  · exact absurd e.symm hn
  · rw [h] at e; cases e
theorem lessS_flat {x y z : ByteArray} (h : lessS x y = true) (k : lessS z y = false) : lessS x z = true := by
  rcases lessS_total x z with e | e | e
  · exact e
  · rw [← e, h] at k; cases k
  · rw [lessS_trans e h] at k; cases k
theorem lastsC_rising : ∀ {L : List CR}, flatC L → rising (lastsC L)
  | [], _ => rising_nil
  | [_], _ => List.pairwise_singleton _ _
  | a :: b :: r, h => by
    obtain ⟨h1, h2⟩ := List.pairwise_cons.1 h
    rw [lastsC_two]
    split
    · exact lastsC_rising h2
    · rename_i q
      refine List.pairwise_cons.2 ⟨fun x hx => ?_, lastsC_rising h2⟩
      have hab : lessS a.key b.key = true := lessS_of (h1 b (List.mem_cons_self ..)) (fun e => q (eqS_iff.2 e))
      rcases List.mem_cons.1 (lastsC_mem hx) with rfl | hx
      · exact hab
      · exact lessS_flat hab ((List.pairwise_cons.1 h2).1 x hx)
theorem lastsC_look : ∀ {L : List CR}, flatC L → ∀ k, look (lastsC L) k = lastK L k
  | [], _, _ => rfl
  | [x], _, k => by
    rw [lastK_cons]
    show look [x] k = _
    rw [look_cons]
    rfl
  | a :: b :: r, h, k => by
    obtain ⟨h1, h2⟩ := List.pairwise_cons.1 h
    have ih := lastsC_look h2 k
    rw [lastK_cons a, ← ih, lastsC_two]
    split
    · rename_i q
      have e := eqS_iff.1 q
      by_cases hk : a.key = k
      · rw [hk, eqS_self, if_pos rfl]
        have : (look (lastsC (b :: r)) k).isSome = true := by
          rw [ih, lastK_cons, e, hk, eqS_self, if_pos rfl]
          cases lastK r k <;> rfl
        cases hl : look (lastsC (b :: r)) k with
        | some x => rfl
        | none => rw [hl] at this; cases this
      · rw [eqS_ne hk, if_neg (by decide)]
        cases look (lastsC (b :: r)) k <;> rfl
    · rename_i q
      have hab : lessS a.key b.key = true := lessS_of (h1 b (List.mem_cons_self ..)) (fun e => q (eqS_iff.2 e))
      rw [look_cons]
      by_cases hk : a.key = k
      · rw [hk, eqS_self, if_pos rfl]
        have : look (lastsC (b :: r)) k = none := look_none fun c hc => by
          rw [← hk]
          rcases List.mem_cons.1 (lastsC_mem hc) with rfl | hc
          · exact (lessS_ne hab).symm
          · exact (lessS_ne (lessS_flat hab ((List.pairwise_cons.1 h2).1 c hc))).symm
        rw [this]
        rfl
      · rw [eqS_ne hk, if_neg (by decide), if_neg (by decide)]
        cases look (lastsC (b :: r)) k <;> rfl
end Go.Proofs.YtlnhbndghnkfmaaGreatDoor
namespace Go.Proofs.YtlnhbndghnkfmaaGreatDoor
open Go.Shelf Go.RowKit Go.Lib Go.Sort

theorem compare_less : ∀ a b : List UInt8, decide (Lib.compareBytes a b < 0) = Go.Op.bytesLess a b
  | [], [] => by unfold Lib.compareBytes Go.Op.bytesLess; rfl
  | [], _ :: _ => by unfold Lib.compareBytes Go.Op.bytesLess; rfl
  | _ :: _, [] => by unfold Lib.compareBytes Go.Op.bytesLess; rfl
  | x :: a, y :: b => by
    unfold Lib.compareBytes Go.Op.bytesLess
    by_cases h : x < y
    · rw [if_pos h, decide_eq_true h]
      rfl
    · rw [if_neg h, decide_eq_false h, Bool.false_or]
      by_cases h2 : y < x
      · rw [if_pos h2]
        have : (x == y) = false := by rw [beq_eq_false_iff_ne]; rintro rfl; exact h h2
        rw [this]
        rfl
      · rw [if_neg h2, compare_less a b]
        have e : x = y := by
          apply UInt8.toNat_inj.1
          have h' : ¬ x.toNat < y.toNat := fun q => h (UInt8.lt_iff_toNat_lt.2 q)
          have h2' : ¬ y.toNat < x.toNat := fun q => h2 (UInt8.lt_iff_toNat_lt.2 q)
          omega
        subst e
        simp
theorem bytes_list (s : ByteArray) : s.toList = s.data.toList := ByteArray.toList_eq s
def cfT (x y : TC) : Int := Lib.compareBytes x.1.key.data.toList y.1.key.data.toList
theorem cfT_less (x y : TC) : ltOf cfT x y = lessS x.1.key y.1.key := by
  unfold ltOf cfT lessS
  rw [compare_less, bytes_list, bytes_list]
/-- The one order that a stable sort makes. -/
def rT (x y : TC) : Prop := lessS x.1.key y.1.key = true ∨ (x.1.key = y.1.key ∧ x.2 < y.2)
theorem rT_trans (x y z : TC) (h : rT x y) (k : rT y z) : rT x z := by
  rcases h with h | ⟨h, h2⟩
  · rcases k with k | ⟨k, _⟩
    · exact .inl (lessS_trans h k)
    · exact .inl (by rw [← k]; exact h)
  · rcases k with k | ⟨k, k2⟩
    · exact .inl (by rw [h]; exact k)
    · exact .inr ⟨h.trans k, by omega⟩
theorem fairT : Fair rT Prod.snd (ltOf cfT) := fun x y h => by
  rw [cfT_less]
  refine ⟨fun e => .inl e, fun e => ?_⟩
  rcases lessS_total x.1.key y.1.key with q | q | q
  · exact .inl q
  · exact .inr ⟨q, h⟩
  · rw [e] at q; cases q

set_option maxHeartbeats 1000000 in
set_option maxRecDepth 100000 in
theorem compareString_any (a b : ByteArray) (w : World) : Calls Tryz.prog 134 #[.string a, .string b] w fun e w' => e = .returned (.int .i64 (Lib.compareBytes a.data.toList b.data.toList)) ∧ w' = w := by
  go_enter Tryz.func134, Tryz.ntmps134
  go_wp2
  rw [run_callFunc_extern Tryz.func166 (by kernel_rfl) (by kernel_rfl) (by kernel_rfl) (e := Extern.BytealgCompare.compare) (by kernel_rfl), Lib.run_compareString]
  simp only [Result.andThen]
  rw [Oper.upon_value]
  go_wp2
  go_ret
  exact ⟨rfl, rfl⟩
theorem compare_any (a b : ByteArray) (w : World) : Calls Tryz.prog 103 #[.string a, .string b] w fun e w' => e = .returned (.int .i64 (Lib.compareBytes a.data.toList b.data.toList)) ∧ w' = w := by
  have H := Lib.hid (compareString_any a b w)
  go_enter Tryz.func103, Tryz.ntmps103
  go_wp2_with fail
  refine H.out.mono ?_
  rintro e w' ⟨rfl, rfl⟩
  go_wp2_with fail
  go_ret
  exact ⟨rfl, rfl⟩
set_option maxRecDepth 100000 in
theorem cmpT_any (x y : TC) (w : World) : Calls Tryz.prog 102 #[.agg (encT x).toArray, .agg (encT y).toArray] w fun e w' => e = .returned (.int .i64 (cfT x y)) ∧ ∃ q os', w' = grow (w.drewN q) os' := by
  obtain ⟨⟨xk, xv, xg⟩, xt⟩ := x
  obtain ⟨⟨yk, yv, yg⟩, yt⟩ := y
  have H := Lib.hid (fun w => compare_any xk yk w)
  show Calls Tryz.prog 102 #[.agg #[.string xk, .string xv, .bool xg], .agg #[.string yk, .string yv, .bool yg]] w _
  go_enter Tryz.func102, Tryz.ntmps102
  go_wp2_with fail
  refine (H.out _).mono ?_
  rintro e w' ⟨rfl, rfl⟩
  go_wp2_with fail
  go_ret
  refine ⟨rfl, 0, #[.cells #[.string xk, .string xv, .bool xg] 70, .cells #[.string yk, .string yv, .bool yg] 70], ?_⟩
  rw [alloc_eq_grow, alloc_eq_grow, grow_grow]
  rfl
def laysIn_ren : Go.Shelf.Ren := ⟨fun | 20 => 164 | n => n, fun | 3 => 3 | 4 => 4 | 22 => 27 | 24 => 70 | 25 => 136 | n => n, fun n => n⟩
theorem laysIn : Go.Proofs.SlLaysF0.n20 Tryz.prog laysIn_ren := {
  mixed := by kernel_rfl
  f20 := ⟨"slices.insertionSortCmpFunc[levee/api.Change]", by kernel_rfl, Tryz.func164.trans (congrArg some (by kernel_rfl))⟩
  t0 := Tryz.underlying0
  a0 := Tryz.isAgg0
  z0 := Tryz.sizeOf0
  v0 := Tryz.zeroValue0
  t3 := Tryz.underlying3
  a3 := Tryz.isAgg3
  z3 := Tryz.sizeOf3
  v3 := Tryz.zeroValue3
  t4 := Tryz.underlying4
  a4 := Tryz.isAgg4
  z4 := Tryz.sizeOf4
  v4 := Tryz.zeroValue4
  t22 := Tryz.underlying27
  a22 := Tryz.isAgg27
  z22 := Tryz.sizeOf27
  v22 := Tryz.zeroValue27
  t25 := Tryz.underlying136
  a25 := Tryz.isAgg136
  z25 := Tryz.sizeOf136
  v25 := Tryz.zeroValue136 }
end Go.Proofs.YtlnhbndghnkfmaaGreatDoor
namespace Go.Proofs.YtlnhbndghnkfmaaGreatDoor

section
variable {α : Type} {r : α → α → Prop} {tag : α → Nat} {f0 : Nat → α}
/-- From a to b in order, and what stood there. -/
structure Seg (r : α → α → Prop) (f0 : Nat → α) (a b : Nat) (f : Nat → α) : Prop where
  ord : Ordd r a b f
  there : ∀ i, a ≤ i → i < b → ∃ j, a ≤ j ∧ j < b ∧ f i = f0 j
  back : ∀ j, a ≤ j → j < b → ∃ i, a ≤ i ∧ i < b ∧ f i = f0 j
theorem Seg.congr {a b : Nat} {f g : Nat → α} (h : Seg r f0 a b f) (e : ∀ i, a ≤ i → i < b → g i = f i) : Seg r f0 a b g := by
  refine ⟨h.ord.congr e, fun i h1 h2 => ?_, fun j h1 h2 => ?_⟩
  · rw [e i h1 h2]
    exact h.there i h1 h2
  · obtain ⟨i, i1, i2, i3⟩ := h.back j h1 h2
    exact ⟨i, i1, i2, (e i i1 i2).trans i3⟩
/-- Marks rise. -/
def Rise (tag : α → Nat) (f0 : Nat → α) (n : Nat) : Prop := ∀ i j, i < j → j < n → tag (f0 i) < tag (f0 j)
theorem seg_two {a m b n : Nat} {f : Nat → α} (ht : Rise tag f0 n) (hb : b ≤ n) (x : Seg r f0 a m f) (y : Seg r f0 m b f) : Two r tag a m b f := by
  refine ⟨x.ord, y.ord, fun i j i1 i2 i3 i4 => ?_⟩
  obtain ⟨i', p1, p2, p3⟩ := x.there i i1 i2
  obtain ⟨j', q1, q2, q3⟩ := y.there j i3 i4
  rw [p3, q3]
  exact ht i' j' (by omega) (by omega)
theorem seg_merge {a m b : Nat} {f g : Nat → α} (ham : a ≤ m) (hmb : m ≤ b) (x : Seg r f0 a m f) (y : Seg r f0 m b f) (ho : Ordd r a b g) (hs : Shuf a b f g) : Seg r f0 a b g := by
  refine ⟨ho, fun i h1 h2 => ?_, fun j h1 h2 => ?_⟩
  · obtain ⟨k, k1, k2, k3⟩ := hs.there i h1 h2
    by_cases hk : k < m
    · obtain ⟨j, j1, j2, j3⟩ := x.there k k1 hk
      exact ⟨j, j1, by omega, k3.trans j3⟩
    · obtain ⟨j, j1, j2, j3⟩ := y.there k (by omega) k2
      exact ⟨j, by omega, j2, k3.trans j3⟩
  · by_cases hj : j < m
    · obtain ⟨k, k1, k2, k3⟩ := x.back j h1 hj
      obtain ⟨i, i1, i2, i3⟩ := hs.back k k1 (by omega)
      exact ⟨i, i1, i2, i3.trans k3⟩
    · obtain ⟨k, k1, k2, k3⟩ := y.back j (by omega) h2
      obtain ⟨i, i1, i2, i3⟩ := hs.back k (by omega) k2
      exact ⟨i, i1, i2, i3.trans k3⟩
theorem seg_new {a b : Nat} {f g : Nat → α} (e : ∀ i, a ≤ i → i < b → f i = f0 i) (ho : Ordd r a b g) (hs : Shuf a b f g) : Seg r f0 a b g := by
  refine ⟨ho, fun i h1 h2 => ?_, fun j h1 h2 => ?_⟩
  · obtain ⟨k, k1, k2, k3⟩ := hs.there i h1 h2
    exact ⟨k, k1, k2, k3.trans (e k k1 k2)⟩
  · obtain ⟨i, i1, i2, i3⟩ := hs.back j h1 h2
    exact ⟨i, i1, i2, i3.trans (e j h1 h2)⟩
/-- Each block of s places. -/
def Blocks (r : α → α → Prop) (f0 : Nat → α) (s n : Nat) (f : Nat → α) : Prop := ∀ x, s ∣ x → x < n → Seg r f0 x (min (x + s) n) f
/-- Blocks are in order up to a; behind it all is as it was. -/
structure Insf (r : α → α → Prop) (f0 : Nat → α) (s a : Nat) (f : Nat → α) : Prop where
  done : ∀ x, s ∣ x → x < a → Seg r f0 x (x + s) f
  rest : ∀ i, a ≤ i → f i = f0 i
/-- Blocks are merged up to a. -/
structure Merf (r : α → α → Prop) (f0 : Nat → α) (s n a : Nat) (f : Nat → α) : Prop where
  done : ∀ x, 2 * s ∣ x → x < a → Seg r f0 x (x + 2 * s) f
  rest : ∀ x, s ∣ x → a ≤ x → x < n → Seg r f0 x (min (x + s) n) f
theorem dvd_gap {s x y : Nat} (h : s ∣ x) (k : s ∣ y) (hl : x < y) : x + s ≤ y := by
  have h1 : s ∣ y - x := (Nat.dvd_sub k h)
  have := Nat.le_of_dvd (by omega) h1
  omega
theorem dvd_two {s x : Nat} (h : 2 * s ∣ x) : s ∣ x := Nat.dvd_trans (Nat.dvd_mul_left s 2) h
theorem Insf.step {s a : Nat} {f g : Nat → α} (h : Insf r f0 s a f) (hd : s ∣ a) (ho : Ordd r a (a + s) g) (hs : Shuf a (a + s) f g) : Insf r f0 s (a + s) g := by
  refine ⟨fun x h1 h2 => ?_, fun i hi => ?_⟩
  · by_cases hx : x < a
    · have := dvd_gap h1 hd hx
      exact (h.done x h1 hx).congr fun i i1 i2 => hs.out i (.inl (by omega))
    · have hxa : x = a := by
        rcases Nat.lt_or_ge a x with q | q
        · have := dvd_gap hd h1 q; omega
        · omega
      subst hxa
      exact seg_new (fun i i1 _ => h.rest i i1) ho hs
  · rw [hs.out i (.inr hi)]
    exact h.rest i (by omega)
theorem Insf.last {s a n : Nat} {f g : Nat → α} (h : Insf r f0 s a f) (hd : s ∣ a) (ha : a ≤ n) (hn : n < a + s) (ho : Ordd r a n g) (hs : Shuf a n f g) : Blocks r f0 s n g := by
  intro x h1 h2
  by_cases hx : x < a
  · have := dvd_gap h1 hd hx
    rw [Nat.min_eq_left (by omega)]
    exact (h.done x h1 hx).congr fun i i1 i2 => hs.out i (.inl (by omega))
  · have hxa : x = a := by
      rcases Nat.lt_or_ge a x with q | q
      · have := dvd_gap hd h1 q; omega
      · omega
    subst hxa
    rw [Nat.min_eq_right (by omega)]
    exact seg_new (fun i i1 _ => h.rest i i1) ho hs
theorem Merf.start {s n : Nat} {f : Nat → α} (h : Blocks r f0 s n f) : Merf r f0 s n 0 f := ⟨fun x _ h2 => by omega, fun x h1 _ h2 => h x h1 h2⟩
theorem Merf.halves {s n a : Nat} {f : Nat → α} (h : Merf r f0 s n a f) (hd : 2 * s ∣ a) (hn : a + s < n) (hs : 0 < s) : Seg r f0 a (a + s) f ∧ Seg r f0 (a + s) (min (a + 2 * s) n) f := by
  constructor
  · have := h.rest a (dvd_two hd) (Nat.le_refl _) (by omega)
    rwa [Nat.min_eq_left (by omega)] at this
  · have := h.rest (a + s) (Nat.dvd_add (dvd_two hd) (Nat.dvd_refl s)) (by omega) hn
    rwa [show a + s + s = a + 2 * s by omega] at this
theorem Merf.step {s n a : Nat} {f g : Nat → α} (h : Merf r f0 s n a f) (hd : 2 * s ∣ a) (hs0 : 0 < s) (hn : a + 2 * s ≤ n) (ho : Ordd r a (a + 2 * s) g) (hs : Shuf a (a + 2 * s) f g) : Merf r f0 s n (a + 2 * s) g := by
  obtain ⟨x1, x2⟩ := h.halves hd (by omega) hs0
  rw [Nat.min_eq_left hn] at x2
  refine ⟨fun x h1 h2 => ?_, fun x h1 h2 h3 => ?_⟩
  · by_cases hx : x < a
    · have := dvd_gap h1 hd hx
      exact (h.done x h1 hx).congr fun i i1 i2 => hs.out i (.inl (by omega))
    · have hxa : x = a := by
        rcases Nat.lt_or_ge a x with q | q
        · have := dvd_gap hd h1 q; omega
        · omega
      subst hxa
      exact seg_merge (by omega) (by omega) x1 x2 ho hs
  · exact (h.rest x h1 (by omega) h3).congr fun i i1 i2 => hs.out i (.inr (by omega))
theorem Merf.last {s n a : Nat} {f g : Nat → α} (h : Merf r f0 s n a f) (hd : 2 * s ∣ a) (hs0 : 0 < s) (h1 : a + s < n) (h2 : n < a + 2 * s) (ho : Ordd r a n g) (hs : Shuf a n f g) : Blocks r f0 (2 * s) n g := by
  obtain ⟨x1, x2⟩ := h.halves hd h1 hs0
  rw [Nat.min_eq_right (by omega)] at x2
  intro x k1 k2
  by_cases hx : x < a
  · have := dvd_gap k1 hd hx
    rw [Nat.min_eq_left (by omega)]
    exact (h.done x k1 hx).congr fun i i1 i2 => hs.out i (.inl (by omega))
  · have hxa : x = a := by
      rcases Nat.lt_or_ge a x with q | q
      · have := dvd_gap hd k1 q; omega
      · omega
    subst hxa
    rw [Nat.min_eq_right (by omega)]
    exact seg_merge (by omega) (by omega) x1 x2 ho hs
theorem Merf.left {s n a : Nat} {f : Nat → α} (h : Merf r f0 s n a f) (hd : 2 * s ∣ a) (ha : a ≤ n) (h1 : n ≤ a + s) : Blocks r f0 (2 * s) n f := by
  intro x k1 k2
  by_cases hx : x < a
  · have := dvd_gap k1 hd hx
    rw [Nat.min_eq_left (by omega)]
    exact h.done x k1 hx
  · have hxa : x = a := by
      rcases Nat.lt_or_ge a x with q | q
      · have := dvd_gap hd k1 q; omega
      · omega
    subst hxa
    have := h.rest x (dvd_two hd) (Nat.le_refl _) k2
    rw [Nat.min_eq_right (by omega)] at this
    rw [Nat.min_eq_right (by omega)]
    exact this
theorem Blocks.all {s n : Nat} {f : Nat → α} (h : Blocks r f0 s n f) (hn : n ≤ s) : Seg r f0 0 n f := by
  rcases Nat.eq_zero_or_pos n with e | e
  · subst e
    exact ⟨fun i j _ _ h3 => by omega, fun i _ h2 => by omega, fun j _ h2 => by omega⟩
  · have := h 0 (Nat.dvd_zero s) e
    rwa [Nat.zero_add, Nat.min_eq_right hn] at this
end
end Go.Proofs.YtlnhbndghnkfmaaGreatDoor
