/- Texts FoN, joined. -/
import Derived.Test.YtlihcjlonafohaaG32
import Derived.Test.YtlihcjlonafohaaG33
import Derived.Test.YtlihcjlonafohaaG34
import Derived.Test.YtlihcjlonafohaaG35
import Derived.Test.YtlihcjlonafohaaG04
/- Walks: named and done as one, Apply. -/
namespace Go.Proofs.Ytlihcjlonafohaa
open Go.RowKit Go.Joins
set_option linter.unusedSimpArgs false
set_option linter.unusedVariables false

/-- A state with the fields alone that its kind names. -/
def namedS (s : FS) : FS :=
  if s.k = 1 ∨ s.k = 2 then ⟨s.k, s.n, [], [], false, 0, tg0, false⟩
  else if s.k = 3 ∨ s.k = 6 ∨ s.k = 8 then ⟨s.k, 0, [], s.live, false, 0, tg0, false⟩
  else if s.k = 4 then ⟨s.k, 0, s.ever, s.live, false, 0, tg0, false⟩
  else if s.k = 5 then ⟨s.k, 0, [], [], s.has, s.st, s.top, false⟩
  else ⟨s.k, 0, [], s.live, false, 0, tg0, s.df⟩
theorem GV.nil (w : World) : GV w (.slice none 0 0) [] := (GOw.nil w 0).gv
theorem SV.nilF (w : World) : SV w (.slice none 0 0) [] := (SO.nil w 0).sv
theorem named_any (s : FS) (v : Value) (hk : knownB s.k = true) (w : World) (h : RV w v s) :
    Calls Try.prog 21 #[v] w fun e w' => ∃ v', e = .returned v' ∧ RV w' v' (namedS s) ∧ Gr w w' := by
  obtain ⟨ve, vl, rfl, he, hl⟩ := h
  obtain ⟨A1, n1, c1, rfl⟩ := sv_form3 he
  obtain ⟨A2, n2, c2, rfl⟩ := gv_form hl
  obtain ⟨k, n, E, L, has, st, top, df⟩ := s
  unfold knownB at hk
  rw [Bool.and_eq_true, decide_eq_true_eq, decide_eq_true_eq] at hk
  simp only at hk he hl ⊢
  obtain rfl | rfl | rfl | rfl | rfl | rfl | rfl | rfl : k = 1 ∨ k = 2 ∨ k = 3 ∨ k = 4 ∨ k = 5 ∨ k = 6 ∨ k = 7 ∨ k = 8 := by omega
  · exact (named1_any n A1 A2 n1 c1 n2 c2 has st top df w).mono fun e w' ⟨h1, h2⟩ => ⟨_, h1, ⟨_, _, rfl, SV.nilF _, GV.nil _⟩, h2⟩
  · exact (named2_any n A1 A2 n1 c1 n2 c2 has st top df w).mono fun e w' ⟨h1, h2⟩ => ⟨_, h1, ⟨_, _, rfl, SV.nilF _, GV.nil _⟩, h2⟩
  · exact (named3_any n A1 A2 n1 c1 n2 c2 has st top df w).mono fun e w' ⟨h1, h2⟩ => ⟨_, h1, ⟨_, _, rfl, SV.nilF _, hl.gr h2⟩, h2⟩
  · exact (named4_any n A1 A2 n1 c1 n2 c2 has st top df w).mono fun e w' ⟨h1, h2⟩ => ⟨_, h1, ⟨_, _, rfl, he.gr h2, hl.gr h2⟩, h2⟩
  · exact (named5_any n A1 A2 n1 c1 n2 c2 has st top df w).mono fun e w' ⟨h1, h2⟩ => ⟨_, h1, ⟨_, _, rfl, SV.nilF _, GV.nil _⟩, h2⟩
  · exact (named6_any n A1 A2 n1 c1 n2 c2 has st top df w).mono fun e w' ⟨h1, h2⟩ => ⟨_, h1, ⟨_, _, rfl, SV.nilF _, hl.gr h2⟩, h2⟩
  · exact (named7_any n A1 A2 n1 c1 n2 c2 has st top df w).mono fun e w' ⟨h1, h2⟩ => ⟨_, h1, ⟨_, _, rfl, SV.nilF _, hl.gr h2⟩, h2⟩
  · exact (named8_any n A1 A2 n1 c1 n2 c2 has st top df w).mono fun e w' ⟨h1, h2⟩ => ⟨_, h1, ⟨_, _, rfl, SV.nilF _, hl.gr h2⟩, h2⟩
theorem done_any (t : TX) (A : Option Addr) (n c : Nat) (o : TO) (g : TG) (s : FS) (A1 A2 : Option Addr) (n1 c1 n2 c2 : Nat) (w0 w : World) (hk : knownB s.k = true) (h0 : Gr w0 w) (he : SO w w0.heap.size (.slice A1 n1 c1) s.ever) (hl : GOw w w0.heap.size (.slice A2 n2 c2) s.live) (hft : FitD s.ever s.live o) :
    Calls Try.prog 23 #[.agg (decs t (.slice A n c) o g), .agg (fsc s.k s.n (.slice A1 n1 c1) (.slice A2 n2 c2) s.has s.st s.top s.df)] w fun e w' => RetD w0 (doneS t o g s) e w' := by
  obtain ⟨k, m, E, L, has, st, top, df⟩ := s
  unfold knownB at hk
  rw [Bool.and_eq_true, decide_eq_true_eq, decide_eq_true_eq] at hk
  simp only at hk he hl hft ⊢
  obtain rfl | rfl | rfl | rfl | rfl | rfl | rfl | rfl : k = 1 ∨ k = 2 ∨ k = 3 ∨ k = 4 ∨ k = 5 ∨ k = 6 ∨ k = 7 ∨ k = 8 := by omega
  · exact done1_any t A n c o g m A1 A2 n1 c1 n2 c2 E L has st top df w0 w h0 he hl hft
  · exact done2_any t A n c o g m A1 A2 n1 c1 n2 c2 E L has st top df w0 w h0 he hl hft
  · exact done3_any t A n c o g m A1 A2 n1 c1 n2 c2 E L has st top df w0 w h0 he hl hft
  · by_cases h : o.kind = 4
    · have e : doneS t o g ⟨4, m, E, L, has, st, top, df⟩ = ⟨4, m, intoT o.elem E, mrkL t o g 5 4 L, has, st, top, df⟩ := by simp [doneS, h]
      rw [e]
      exact done4a_any t A n c o g m A1 A2 n1 c1 n2 c2 E L has st top df h w0 w h0 he hl hft
    · have e : doneS t o g ⟨4, m, E, L, has, st, top, df⟩ = ⟨4, m, E, mrkL t o g 5 4 L, has, st, top, df⟩ := by simp [doneS, h]
      rw [e]
      exact done4n_any t A n c o g m A1 A2 n1 c1 n2 c2 E L has st top df h w0 w h0 he hl hft
  · by_cases h : o.kind = 6
    · rcases hlt : latB t g has st top with _ | _
      · have e : doneS t o g ⟨5, m, E, L, has, st, top, df⟩ = ⟨5, m, E, L, has, st, top, df⟩ := by simp [doneS, h, hlt]
        rw [e]
        exact done5e_any t A n c o g m A1 A2 n1 c1 n2 c2 E L has st top df h hlt w0 w h0 he hl hft
      · have e : doneS t o g ⟨5, m, E, L, has, st, top, df⟩ = ⟨5, m, E, L, true, t.stamp, g, df⟩ := by simp [doneS, h, hlt]
        rw [e]
        exact done5y_any t A n c o g m A1 A2 n1 c1 n2 c2 E L has st top df h hlt w0 w h0 he hl hft
    · have e : doneS t o g ⟨5, m, E, L, has, st, top, df⟩ = ⟨5, m, E, L, has, st, top, df⟩ := by simp [doneS, h]
      rw [e]
      exact done5n_any t A n c o g m A1 A2 n1 c1 n2 c2 E L has st top df h w0 w h0 he hl hft
  · exact done6_any t A n c o g m A1 A2 n1 c1 n2 c2 E L has st top df w0 w h0 he hl hft
  · cases df with
    | false =>
      exact done7f_any t A n c o g m A1 A2 n1 c1 n2 c2 E L has st top w0 w h0 he hl hft
    | true =>
      by_cases h : o.kind = 8
      · have e : doneS t o g ⟨7, m, E, L, has, st, top, true⟩ = ⟨7, m, E, mrkL t o g 7 8 L, has, st, top, false⟩ := by simp [doneS, h]
        rw [e]
        exact done7o_any t A n c o g m A1 A2 n1 c1 n2 c2 E L has st top h w0 w h0 he hl hft
      · have e : doneS t o g ⟨7, m, E, L, has, st, top, true⟩ = ⟨7, m, E, mrkL t o g 7 8 L, has, st, top, true⟩ := by simp [doneS, h]
        rw [e]
        exact done7n_any t A n c o g m A1 A2 n1 c1 n2 c2 E L has st top h w0 w h0 he hl hft
  · exact done8_any t A n c o g m A1 A2 n1 c1 n2 c2 E L has st top df w0 w h0 he hl hft
/-- What lies below B stays; there may be fewer blocks than before, but B of them. -/
structure StayB (B : Nat) (w w' : World) : Prop where
  os : w'.os = w.os
  tape : w'.tape = w.tape
  output : w'.output = w.output
  size : B ≤ w'.heap.size
  block : ∀ k, k < B → w'.heap[k]? = w.heap[k]?
theorem StayB.gr {B : Nat} {a w w' : World} (h : StayB B w w') (g : Gr a w) (hB : a.heap.size ≤ B) : Gr a w' :=
  ⟨h.os.trans g.os, h.tape.trans g.tape, h.output.trans g.output, Nat.le_trans hB h.size, fun k hk => (h.block k (Nat.lt_of_lt_of_le hk hB)).trans (g.block k hk)⟩
/-- The answer of done over any base. -/
def RetB (B : Nat) (s : FS) (w : World) (e : Ending) (w' : World) : Prop := ∃ v, e = .returned v ∧ FV w' B v s ∧ StayB B w w'
theorem done_at (t : TX) (A : Option Addr) (n c : Nat) (o : TO) (g : TG) (s : FS) (A1 A2 : Option Addr) (n1 c1 n2 c2 : Nat) (B : Nat) (w : World) (hk : knownB s.k = true) (hB : B ≤ w.heap.size) (he : SO w B (.slice A1 n1 c1) s.ever) (hl : GOw w B (.slice A2 n2 c2) s.live) (hft : FitD s.ever s.live o) :
    Calls Try.prog 23 #[.agg (decs t (.slice A n c) o g), .agg (fsc s.k s.n (.slice A1 n1 c1) (.slice A2 n2 c2) s.has s.st s.top s.df)] w fun e w' => RetB B (doneS t o g s) w e w' := by
  obtain ⟨w0, hw0⟩ : ∃ w0 : World, w0 = { w with heap := w.heap.extract 0 B } := ⟨_, rfl⟩
  have hs : w0.heap.size = B := by rw [hw0]; simp only [Array.size_extract]; omega
  have hb : ∀ k, k < B → w.heap[k]? = w0.heap[k]? := fun k hk => by
    rw [hw0]
    simp only [Array.getElem?_extract]
    rw [if_pos (by omega), Nat.zero_add]
  have h0 : Gr w0 w := ⟨by rw [hw0], by rw [hw0], by rw [hw0], by rw [hs]; exact hB, fun k hk => hb k (by rw [← hs]; exact hk)⟩
  rw [← hs] at he hl
  refine (done_any t A n c o g s A1 A2 n1 c1 n2 c2 w0 w hk h0 he hl hft).mono fun e w' ⟨v, h1, h2, h3⟩ => ⟨v, h1, by rw [← hs]; exact h2, ?_⟩
  have h3 : Below w0.heap.size w0 w' := h3
  have hz := h3.size
  rw [hs] at h3 hz
  exact ⟨h3.os.trans h0.os.symm, h3.tape.trans h0.tape.symm, h3.output.trans h0.output.symm, hz, fun k hk => (h3.block k hk).trans (hb k hk).symm⟩
/-- The state behind the first j operations of a transaction. -/
def stepTo (key : ByteArray) (t : TX) (s : FS) : Nat → FS
  | 0 => namedS s
  | j + 1 => match t.ops[j]? with
    | some o => if eqS o.key key = true then doneS t o (tagOf t j o) (stepTo key t s j) else stepTo key t s j
    | none => stepTo key t s j
def applyS (key : ByteArray) (t : TX) (s : FS) : FS := stepTo key t s t.ops.length
/-- Numbers that a state's lists keep. -/
structure FitM (m : Nat) (s : FS) : Prop where
  live : s.live.length ≤ m
  ever : s.ever.length ≤ m
  sz : ∀ x ∈ s.ever, x.size ≤ 281474976710656
  tz : ∀ x ∈ s.live, x.e.size ≤ 281474976710656
  top : s.top.e.size ≤ 281474976710656
theorem mrk1_sub {t : TX} {o : TO} {g : TG} {c : Int} {L : List TG} : ∀ x ∈ mrk1 t o g c L, x ∈ L := fun x hx => by
  unfold mrk1 at hx
  split at hx
  · exact (List.mem_filter.1 hx).1
  · exact hx
theorem mrk1_le (t : TX) (o : TO) (g : TG) (c : Int) (L : List TG) : (mrk1 t o g c L).length ≤ L.length := by
  unfold mrk1
  split
  · exact List.length_filter_le _ _
  · exact Nat.le_refl _
theorem mrkL_le (t : TX) (o : TO) (g : TG) (a c : Int) (L : List TG) : (mrkL t o g a c L).length ≤ L.length + 1 := by
  have := mrk1_le t o g c L
  unfold mrkL
  split
  · have := List.length_insertIdx_le_succ (l := mrk1 t o g c L) (x := g) (i := gckN (fun x => geG x g) (mrk1 t o g c L))
    omega
  · omega
theorem mrkL_mem {t : TX} {o : TO} {g : TG} {a c : Int} {L : List TG} : ∀ x ∈ mrkL t o g a c L, x = g ∨ x ∈ L := fun x hx => by
  unfold mrkL at hx
  split at hx
  · rw [List.mem_insertIdx (gckN_le _ _)] at hx
    rcases hx with hx | hx
    · exact .inl hx
    · exact .inr (mrk1_sub x hx)
  · exact .inr (mrk1_sub x hx)
theorem FitM.le {m m' : Nat} {s : FS} (h : FitM m s) (hm : m ≤ m') : FitM m' s := ⟨Nat.le_trans h.live hm, Nat.le_trans h.ever hm, h.sz, h.tz, h.top⟩
theorem FitM.named {m : Nat} {s : FS} (h : FitM m s) : FitM m (namedS s) := by
  have z : (tg0.e).size ≤ 281474976710656 := by decide
  have n0 : ∀ x ∈ ([] : List ByteArray), x.size ≤ 281474976710656 := fun _ hx => absurd hx (by simp)
  have n1 : ∀ x ∈ ([] : List TG), x.e.size ≤ 281474976710656 := fun _ hx => absurd hx (by simp)
  unfold namedS
  split
  · exact ⟨Nat.zero_le _, Nat.zero_le _, n0, n1, z⟩
  split
  · exact ⟨h.live, Nat.zero_le _, n0, h.tz, z⟩
  split
  · exact ⟨h.live, h.ever, h.sz, h.tz, z⟩
  split
  · exact ⟨Nat.zero_le _, Nat.zero_le _, n0, n1, h.top⟩
  · exact ⟨h.live, Nat.zero_le _, n0, h.tz, z⟩
theorem FitM.done {m : Nat} {s : FS} (h : FitM m s) (t : TX) (k : Nat) {o : TO} (ho : o.elem.size ≤ 281474976710656) : FitM (m + 1) (doneS t o (tagOf t k o) s) := by
  have hl : ∀ a c, (mrkL t o (tagOf t k o) a c s.live).length ≤ m + 1 := fun a c => Nat.le_trans (mrkL_le _ _ _ _ _ _) (Nat.succ_le_succ h.live)
  have ht : ∀ a c, ∀ x ∈ mrkL t o (tagOf t k o) a c s.live, x.e.size ≤ 281474976710656 := fun a c x hx => by
    rcases mrkL_mem x hx with rfl | hx
    · exact ho
    · exact h.tz x hx
  have he : s.ever.length ≤ m + 1 := Nat.le_succ_of_le h.ever
  have hv : s.live.length ≤ m + 1 := Nat.le_succ_of_le h.live
  unfold doneS
  split
  · exact ⟨hv, he, h.sz, h.tz, h.top⟩
  split
  · exact ⟨hl _ _, he, h.sz, ht _ _, h.top⟩
  split
  · refine ⟨hl _ _, ?_, ?_, ht _ _, h.top⟩
    · simp only
      split
      · exact Nat.le_trans (intoT_len _ _) (Nat.succ_le_succ h.ever)
      · exact he
    · simp only
      split
      · intro x hx
        rw [intoT_ins, mem_insRs] at hx
        rcases hx with rfl | hx
        · exact ho
        · exact h.sz x hx
      · exact h.sz
  split
  · split
    · exact ⟨hv, he, h.sz, h.tz, ho⟩
    · exact ⟨hv, he, h.sz, h.tz, h.top⟩
  split
  · exact ⟨hl _ _, he, h.sz, ht _ _, h.top⟩
  split
  · exact ⟨hl _ _, he, h.sz, ht _ _, h.top⟩
  · exact ⟨hv, he, h.sz, h.tz, h.top⟩
theorem doneS_k (t : TX) (o : TO) (g : TG) (s : FS) : (doneS t o g s).k = s.k := by
  unfold doneS
  repeat' split
  all_goals rfl
theorem namedS_k (s : FS) : (namedS s).k = s.k := by
  unfold namedS
  repeat' split
  all_goals rfl
theorem stepTo_k (key : ByteArray) (t : TX) (s : FS) : ∀ j, (stepTo key t s j).k = s.k
  | 0 => namedS_k s
  | j + 1 => by
    have ih := stepTo_k key t s j
    unfold stepTo
    split
    · split
      · rw [doneS_k, ih]
      · exact ih
    · exact ih
theorem stepTo_fit (key : ByteArray) {t : TX} {s : FS} {m : Nat} (h : FitM m s) (hs : ∀ o ∈ t.ops, o.elem.size ≤ 281474976710656) : ∀ j, FitM (m + j) (stepTo key t s j)
  | 0 => h.named
  | j + 1 => by
    have ih := stepTo_fit key h hs j
    unfold stepTo
    split
    · next o ho =>
      split
      · exact ih.done t j (hs o (List.mem_of_getElem? ho))
      · exact ih.le (by omega)
    · exact ih.le (by omega)
theorem stepTo_yes {key : ByteArray} {t : TX} {s : FS} {j : Nat} {o : TO} (h : t.ops[j]? = some o) (hk : eqS o.key key = true) : stepTo key t s (j + 1) = doneS t o (tagOf t j o) (stepTo key t s j) := by
  show (match t.ops[j]? with | some o => if eqS o.key key = true then doneS t o (tagOf t j o) (stepTo key t s j) else stepTo key t s j | none => stepTo key t s j) = _
  rw [h]
  exact if_pos hk
theorem stepTo_no {key : ByteArray} {t : TX} {s : FS} {j : Nat} {o : TO} (h : t.ops[j]? = some o) (hk : eqS o.key key = false) : stepTo key t s (j + 1) = stepTo key t s j := by
  show (match t.ops[j]? with | some o => if eqS o.key key = true then doneS t o (tagOf t j o) (stepTo key t s j) else stepTo key t s j | none => stepTo key t s j) = _
  rw [h]
  exact if_neg (by rw [hk]; decide)
end Go.Proofs.Ytlihcjlonafohaa
