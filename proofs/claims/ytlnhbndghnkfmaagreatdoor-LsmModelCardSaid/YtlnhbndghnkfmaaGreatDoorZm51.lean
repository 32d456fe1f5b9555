/- The arguments of the laws of stores: changes, acts, lists of them: what they read as, and how long they are. Mathematics of a store: what it holds of a key: acts leave it as the batches' list leaves it, whatever was flushed and merged. Mathematics of a store: an act leaves of each key what it held and the batch behind it. -/
import Derived.Test.YtlnhbndghnkfmaaGreatDoorZm50
import Derived.Test.YtlnhbndghnkfmaaGreatDoorZm46
namespace Go.Proofs.YtlnhbndghnkfmaaGreatDoor
open Go.ChangeShapes Go.WideShapes Go.RowKit Go.Deep

theorem cellsTCh : Tryz.prog.cellsOf 70 = 3 := by kernel_rfl
theorem cellsTAct : Tryz.prog.cellsOf 44 = 2 := by kernel_rfl
theorem cellsTChs : Tryz.prog.cellsOf 27 = 1 := by kernel_rfl
theorem cellsTBool : Tryz.prog.cellsOf 4 = 1 := by kernel_rfl
theorem bytesTCh : Tryz.prog.bytesOf 70 = 40 := by kernel_rfl
theorem bytesTAct : Tryz.prog.bytesOf 44 = 32 := by kernel_rfl
theorem cellsAInt : Tryz.prog.cellsOf 3 = 1 := by kernel_rfl
theorem cellsAStr : Tryz.prog.cellsOf 9 = 1 := by kernel_rfl
theorem cells_of_act {w : World} {B : Nat} {a : Addr} {k : Nat} {cs : List Value} (hc : w.cells? B a k = some cs) (j : Nat) (hj : j < k) : w.cell? (a.add j) = cs[j]? := by
  obtain ⟨_, hl, hat⟩ := World.cells?_some hc
  exact hat j hj
def chcell (c : CR) : List Value := [.string c.key, .string c.val, .bool c.gone]
section
variable {H : Type} {enc : TypeId × Value → H} {W : World} {base : Nat} {v : Value} {d : DataW H} {p : List MemPlace}
set_option maxRecDepth 100000 in
theorem trod_tch {B : Nat} {sp : Nat → Bool} {hd : Bool} {m : Nat} {cs : List Value} {x : DataW H × List MemPlace} (hl : cs.length = 3) (hf : DataW.trod enc Tryz.prog W B sp hd m 70 cs = some x) (hw : ∀ q ∈ DataW.weights Tryz.prog 70 x.1, q ≤ reachBytes) :
    ∃ o : CR, cs = chcell o ∧ o.key.size ≤ 281474976710656 ∧ o.val.size ≤ 281474976710656 := by
  obtain ⟨ys, n, _, hx, _, hyl, hg⟩ := DataW.trod_struct Tryz.underlying70 hf
  match cs, hl with
  | [c0, c1, c2], _ =>
    match ys, hyl with
    | [y0, y1, y2], _ =>
      have h0 := hg 0 ({ name := "Key", type := 9, offset := 0, embedded := false, tag := "", pkgPath := "", byteOffset := 0 } : Field) rfl
      have h1 := hg 1 ({ name := "Value", type := 9, offset := 1, embedded := false, tag := "", pkgPath := "", byteOffset := 16 } : Field) rfl
      have h2 := hg 2 ({ name := "Gone", type := 4, offset := 2, embedded := false, tag := "", pkgPath := "", byteOffset := 32 } : Field) rfl
      have h0' : DataW.trod enc Tryz.prog W B sp hd n 9 [c0] = some y0 := by simpa [cellsAStr] using h0
      have h1' : DataW.trod enc Tryz.prog W B sp hd n 9 [c1] = some y1 := by simpa [cellsAStr] using h1
      have h2' : DataW.trod enc Tryz.prog W B sp hd n 4 [c2] = some y2 := by simpa [cellsTBool] using h2
      simp only [List.map_cons, List.map_nil] at hx
      obtain ⟨s0, hz0, hy0, _⟩ := DataW.trod_string Tryz.underlying9 h0'
      obtain ⟨s1, hz1, hy1, _⟩ := DataW.trod_string Tryz.underlying9 h1'
      obtain ⟨b2, hz2, _⟩ := DataW.trod_bool Tryz.underlying4 h2'
      injection hz0 with hz0
      injection hz1 with hz1
      injection hz2 with hz2
      subst hz0 hz1 hz2
      have hq0 := hw s0.data.toList.length (by
        rw [hx]
        simp only [DataW.weights, Tryz.underlying70]
        refine DataW.weights_mem_each (j := 0) (t := 9) (d := .lit (.string s0.data.toList)) rfl ?_ _ ?_
        · rw [hy0]; rfl
        · simp [DataW.weights])
      have hq1 := hw s1.data.toList.length (by
        rw [hx]
        simp only [DataW.weights, Tryz.underlying70]
        refine DataW.weights_mem_each (j := 1) (t := 9) (d := .lit (.string s1.data.toList)) rfl ?_ _ ?_
        · rw [hy1]; rfl
        · simp [DataW.weights])
      rw [Array.length_toList, reach_is] at hq0 hq1
      exact ⟨⟨s0, s1, b2⟩, rfl, by change s0.size ≤ _ at hq0; simp only []; omega, by change s1.size ≤ _ at hq1; simp only []; omega⟩
set_option maxRecDepth 100000 in
/-- A slice of changes in a cell. -/
theorem trod_tchs {m : Nat} {c : Value} {x : DataW H × List MemPlace} (hf : DataW.trod enc Tryz.prog W 0 (fun _ => true) true m 27 [c] = some x) (hw : ∀ q ∈ DataW.weights Tryz.prog 27 x.1, q ≤ reachBytes) :
    ∃ L : List CR, CV W c L ∧ (∀ o ∈ L, o.key.size ≤ 281474976710656 ∧ o.val.size ≤ 281474976710656) ∧ L.length * 40 ≤ 140737488355328 := by
  rcases open_slice Tryz.underlying27 hf with ⟨hcs, _⟩ | ⟨a, len, cap, m2, n, D, Pl, hcs, _, hl, hm, hmm, hx, hi⟩
  · injection hcs with hcs
    rw [hcs]
    exact ⟨[], ⟨none, 0, rfl, Nat.le_refl _, ⟨Nat.zero_le _, fun _ => rfl⟩, fun j hj => absurd hj (by simp)⟩, (fun o ho => by cases ho), by decide⟩
  · injection hcs with hcs
    rw [hcs]
    simp only [if_true] at hmm
    subst hmm
    rw [cellsTCh] at hi
    rw [hx] at hw
    have hle := hw ((((List.range len).map D).length + ((List.range (m2 - len)).map fun j => D (len + j)).length) * Tryz.prog.bytesOf 70) (by
      simp only [DataW.weights, Tryz.underlying27]; exact List.mem_cons_self ..)
    rw [bytesTCh, List.length_map, List.length_range, reach_is] at hle
    have hel : ∀ i, i < len → ∀ q ∈ DataW.weights Tryz.prog 70 (D i), q ≤ reachBytes := fun i hil q hq => hw q (by
      simp only [DataW.weights, Tryz.underlying27]
      exact List.mem_cons_of_mem _ (List.mem_append.2 (.inl (weightsAll_mem (List.mem_map_of_mem (List.mem_range.2 hil)) hq))))
    have hsp : 0 < len → a.spot = none := fun h0 => spot_of (by decide) hi (show 0 < m2 by omega)
    have hex : ∀ i, i < len → ∃ o : CR, (∃ b off, a = ⟨b, off, none⟩ ∧ CCell W b (off + i * 3) o) ∧ (o.key.size ≤ 281474976710656 ∧ o.val.size ≤ 281474976710656) := fun i hil => by
      obtain ⟨cs', hc, ht⟩ := hi i (by omega)
      obtain ⟨_, hl3, _⟩ := World.cells?_some hc
      obtain ⟨o, rfl, ho⟩ := trod_tch hl3 ht (hel i hil)
      have c0 := cells_of_act hc 0 (by decide)
      have c1 := cells_of_act hc 1 (by decide)
      have c2 := cells_of_act hc 2 (by decide)
      obtain ⟨b, off, spot⟩ := a
      have hspot : spot = none := hsp (by omega)
      subst hspot
      rw [add_plain, add_plain] at c0 c1 c2
      exact ⟨o, ⟨b, off, rfl, c0, c1, c2⟩, ho⟩
    obtain ⟨L, hL, hall⟩ := list_of len hex
    refine ⟨L, ⟨some a, m2, by rw [hL], by omega, ⟨hm, fun h => by cases h⟩, fun j hj => ?_⟩, fun o ho => ?_, by rw [hL]; omega⟩
    · obtain ⟨⟨b, off, ha, hc⟩, _⟩ := hall j hj
      exact ⟨b, off, by rw [ha], hc⟩
    · obtain ⟨j, hj, rfl⟩ := List.mem_iff_getElem.1 ho
      exact (hall j hj).2
set_option maxRecDepth 100000 in
/-- An act's cells. -/
theorem trod_tact {m : Nat} {cs : List Value} {x : DataW H × List MemPlace} (hl : cs.length = 2) (hf : DataW.trod enc Tryz.prog W 0 (fun _ => true) true m 44 cs = some x) (hw : ∀ q ∈ DataW.weights Tryz.prog 44 x.1, q ≤ reachBytes) :
    ∃ (o : ActC) (u : Value), cs = [.int .i64 o.kind, u] ∧ CV W u o.chs ∧ FitAct o := by
  obtain ⟨ys, n, _, hx, _, hyl, hg⟩ := DataW.trod_struct Tryz.underlying44 hf
  match cs, hl with
  | [c0, c1], _ =>
    match ys, hyl with
    | [y0, y1], _ =>
      have h0 := hg 0 ({ name := "Kind", type := 3, offset := 0, embedded := false, tag := "", pkgPath := "", byteOffset := 0 } : Field) rfl
      have h1 := hg 1 ({ name := "Changes", type := 27, offset := 1, embedded := false, tag := "", pkgPath := "", byteOffset := 8 } : Field) rfl
      have h0' : DataW.trod enc Tryz.prog W 0 (fun _ => true) true n 3 [c0] = some y0 := by simpa [cellsAInt] using h0
      have h1' : DataW.trod enc Tryz.prog W 0 (fun _ => true) true n 27 [c1] = some y1 := by simpa [cellsTChs] using h1
      simp only [List.map_cons, List.map_nil] at hx
      obtain ⟨z0, hz0, _, w0⟩ := DataW.trod_int Tryz.underlying3 h0'
      injection hz0 with hz0
      subst hz0
      obtain ⟨L, hv, ho, hlen⟩ := trod_tchs h1' (fun q hq => hw q (by
        rw [hx]
        simp only [DataW.weights, Tryz.underlying44]
        exact DataW.weights_mem_each (j := 1) (t := 27) (d := y1.1) rfl rfl q hq))
      exact ⟨⟨z0, L⟩, c1, rfl, hv, hlen, ho⟩
set_option maxRecDepth 100000 in
/-- A slice of acts in a cell. -/
theorem trod_tacts {m : Nat} {c : Value} {x : DataW H × List MemPlace} (hf : DataW.trod enc Tryz.prog W 0 (fun _ => true) true m 39 [c] = some x) (hw : ∀ q ∈ DataW.weights Tryz.prog 39 x.1, q ≤ reachBytes) :
    ∃ L : List ActC, AV W c L ∧ (∀ t ∈ L, FitAct t) ∧ L.length * 32 ≤ 140737488355328 := by
  rcases open_slice Tryz.underlying39 hf with ⟨hcs, _⟩ | ⟨a, len, cap, m2, n, D, Pl, hcs, _, hl, hm, hmm, hx, hi⟩
  · injection hcs with hcs
    rw [hcs]
    exact ⟨[], ⟨none, 0, rfl, Nat.le_refl _, ⟨Nat.zero_le _, fun _ => rfl⟩, fun j hj => absurd hj (by simp)⟩, (fun o ho => by cases ho), by decide⟩
  · injection hcs with hcs
    rw [hcs]
    simp only [if_true] at hmm
    subst hmm
    rw [cellsTAct] at hi
    rw [hx] at hw
    have hle := hw ((((List.range len).map D).length + ((List.range (m2 - len)).map fun j => D (len + j)).length) * Tryz.prog.bytesOf 44) (by
      simp only [DataW.weights, Tryz.underlying39]; exact List.mem_cons_self ..)
    rw [bytesTAct, List.length_map, List.length_range, reach_is] at hle
    have hel : ∀ i, i < len → ∀ q ∈ DataW.weights Tryz.prog 44 (D i), q ≤ reachBytes := fun i hil q hq => hw q (by
      simp only [DataW.weights, Tryz.underlying39]
      exact List.mem_cons_of_mem _ (List.mem_append.2 (.inl (weightsAll_mem (List.mem_map_of_mem (List.mem_range.2 hil)) hq))))
    have hsp : 0 < len → a.spot = none := fun h0 => spot_of (by decide) hi (show 0 < m2 by omega)
    have hex : ∀ i, i < len → ∃ t : ActC, (∃ b off vl, a = ⟨b, off, none⟩ ∧ W.cell? ⟨b, off + i * 2, none⟩ = some (.int .i64 t.kind) ∧ W.cell? ⟨b, off + i * 2 + 1, none⟩ = some vl ∧ CV W vl t.chs) ∧ FitAct t := fun i hil => by
      obtain ⟨cs', hc, ht⟩ := hi i (by omega)
      obtain ⟨_, hl2, _⟩ := World.cells?_some hc
      obtain ⟨t, u, rfl, hv, hft⟩ := trod_tact hl2 ht (hel i hil)
      have c0 := cells_of_act hc 0 (by decide)
      have c1 := cells_of_act hc 1 (by decide)
      obtain ⟨b, off, spot⟩ := a
      have hspot : spot = none := hsp (by omega)
      subst hspot
      rw [add_plain, add_plain] at c0 c1
      exact ⟨t, ⟨b, off, u, rfl, c0, c1, hv⟩, hft⟩
    obtain ⟨L, hL, hall⟩ := list_of len hex
    refine ⟨L, ⟨some a, m2, by rw [hL], by omega, ⟨hm, fun h => by cases h⟩, fun j hj => ?_⟩, fun o ho => ?_, by rw [hL]; omega⟩
    · obtain ⟨⟨b, off, vl, ha, hc⟩, _⟩ := hall j hj
      exact ⟨b, off, vl, by rw [ha], hc⟩
    · obtain ⟨j, hj, rfl⟩ := List.mem_iff_getElem.1 ho
      exact (hall j hj).2
set_option maxRecDepth 100000 in
/-- An argument that is a slice of acts. -/
theorem open_acts (hval : Value.okWide Tryz.prog W .any base 39 v) (h : DataW.Trod enc Tryz.prog W 0 (fun _ => true) true 39 v d p) (hw : ∀ q ∈ DataW.weights Tryz.prog 39 d, q ≤ reachBytes) :
    ∃ L : List ActC, AV W v L ∧ (∀ t ∈ L, FitAct t) ∧ L.length * 32 ≤ 140737488355328 := by
  obtain ⟨a0, len0, cap0, rfl⟩ := okWide_slice Tryz.underlying39 hval
  obtain ⟨fuel, hf⟩ := h
  exact trod_tacts (x := (d, p)) (by simpa [Value.cells] using hf) hw
end
end Go.Proofs.YtlnhbndghnkfmaaGreatDoor
namespace Go.Proofs.YtlnhbndghnkfmaaGreatDoor
open Go.RowKit

/-- The value that a list of changes leaves of a key. -/
def liveK (L : List CR) (k : ByteArray) : Option ByteArray := (lastK L k).bind leftC
/-- All changes that a store tells of, oldest first. -/
noncomputable def viewS (s : St) : List CR := tabsC s.files s.tabs ++ s.mem
theorem liveK_append (A B : List CR) (k : ByteArray) : liveK (A ++ B) k = match lastK B k with | some c => leftC c | none => liveK A k := by
  unfold liveK
  rw [lastK_append]
  cases lastK B k <;> rfl
theorem liveK_congr {A A' : List CR} {k : ByteArray} (h : liveK A k = liveK A' k) (B : List CR) : liveK (A ++ B) k = liveK (A' ++ B) k := by
  rw [liveK_append, liveK_append, h]
theorem lastK_puts (L : List CR) (k : ByteArray) : lastK (puts [] L) k = lastK L k := by
  rw [lastK_rising (puts_rising L rising_nil), look_puts L k rising_nil, look_nil]
  cases lastK L k <;> rfl
theorem liveK_puts (A L : List CR) (k : ByteArray) : liveK (A ++ puts [] L) k = liveK (A ++ L) k := by
  unfold liveK
  rw [lastK_append, lastK_append, lastK_puts]
theorem cut_put (v : ByteArray) : cutP (pB ++ v) pB = true := by
  rw [cutP_iff]
  have e : (pB ++ v).extract 0 pB.size = pB := by
    rw [ByteArray.extract_append]
    simp [pB]
  exact ⟨by rw [ByteArray.size_append]; omega, e⟩
theorem rest_put (v : ByteArray) : (pB ++ v).extract 1 (pB ++ v).size = v := by
  have e : (pB ++ v).extract pB.size (pB.size + v.size) = v := ByteArray.extract_append_eq_right rfl rfl
  rw [ByteArray.size_append]
  exact e
theorem from_key (c : CR) : (fromPR (pairC c)).key = c.key := by
  unfold fromPR
  split <;> rfl
theorem from_left (c : CR) : leftC (fromPR (pairC c)) = leftC c := by
  unfold fromPR pairC leftC
  cases c.gone with
  | true =>
    have e : cutP ⟨#[100]⟩ pB = false := by
      cases h : cutP ⟨#[100]⟩ pB with
      | false => rfl
      | true =>
        obtain ⟨_, h2⟩ := cutP_iff.1 h
        exact absurd h2 (by decide)
    simp [e]
  | false =>
    have e1 := cut_put c.val
    have e2 := rest_put c.val
    unfold pB at e1 e2
    simp only [Bool.false_eq_true, if_false]
    unfold pB
    rw [if_pos e1]
    simp only [Bool.false_eq_true, if_false]
    rw [e2]
theorem lastK_map {f : CR → CR} (hf : ∀ c, (f c).key = c.key) (L : List CR) (k : ByteArray) : lastK (L.map f) k = (lastK L k).map f := by
  induction L with
  | nil => rfl
  | cons c L ih =>
    rw [List.map_cons, lastK_cons, lastK_cons, ih, hf]
    cases lastK L k with
    | some x => rfl
    | none => cases eqS c.key k <;> rfl
theorem liveK_from (L : List CR) (k : ByteArray) : liveK ((L.map pairC).map fromPR) k = liveK L k := by
  unfold liveK
  rw [List.map_map, lastK_map (f := fromPR ∘ pairC) (fun c => from_key c)]
  cases lastK L k with
  | none => rfl
  | some c => exact from_left c
theorem look_filter {A : List CR} (hr : rising A) (p : CR → Bool) (k : ByteArray) : look (A.filter p) k = (look A k).bind fun c => if p c then some c else none := by
  cases h : look A k with
  | none =>
    rw [look_none_iff] at h
    exact look_none fun c hc => h c (List.mem_filter.1 hc).1
  | some c =>
    obtain ⟨hk, hm⟩ := look_key h
    show _ = if p c then some c else none
    by_cases hp : p c = true
    · rw [if_pos hp, ← hk]
      exact look_self (List.Pairwise.filter _ hr) (List.mem_filter.2 ⟨hm, hp⟩)
    · rw [if_neg hp]
      refine look_none fun x hx e => ?_
      obtain ⟨h1, h2⟩ := List.mem_filter.1 hx
      have h3 := look_self hr h1
      rw [e, h] at h3
      injection h3 with h3
      rw [h3] at hp
      exact hp h2
theorem liveK_held (L : List CR) (k : ByteArray) : liveK ((puts [] L).filter fun c => !c.gone) k = liveK L k := by
  have hr := puts_rising L rising_nil
  unfold liveK
  rw [lastK_rising (List.Pairwise.filter _ hr), look_filter hr, ← lastK_rising hr, lastK_puts]
  cases lastK L k with
  | none => rfl
  | some c =>
    show (if (!c.gone) = true then some c else none).bind leftC = leftC c
    unfold leftC
    cases hg : c.gone <;> simp [hg]
theorem inTab_lk {L L' : List F} {nm : ByteArray} (h : lk L' nm = lk L nm) : tabC L' nm = tabC L nm := by
  unfold tabC inTab
  rw [bytesF_of h]
theorem tabsC_lk {L L' : List F} {T : List ByteArray} (h : ∀ t ∈ T, lk L' t = lk L t) : tabsC L' T = tabsC L T := by
  unfold tabsC
  induction T with
  | nil => rfl
  | cons t T ih => rw [List.flatMap_cons, List.flatMap_cons, inTab_lk (h t List.mem_cons_self), ih fun x hx => h x (List.mem_cons_of_mem _ hx)]
theorem tabC_new {K : List F} {nm : ByteArray} {P : List PR} (ok : okTab P) (h : lk K nm = some ⟨nm, bs (tabL P), ⟨#[]⟩⟩) : tabC K nm = P.map fromPR := by
  have hb : bytesF K nm = (bs (tabL P) ++ ⟨#[]⟩, 0) := by
    unfold bytesF
    rw [find?_bytes]
    unfold lk at h
    rw [h]
  have e : bs (tabL P) ++ (⟨#[]⟩ : ByteArray) = bs (tabL P) := ByteArray.append_empty
  rw [e] at hb
  unfold tabC inTab
  rw [hb]
  have hd : (bs (tabL P)).data.toList = tabL P := rfl
  rw [if_pos rfl, hd, allR_tab ok]
  rfl
theorem tabsC_append (L : List F) (T U : List ByteArray) : tabsC L (T ++ U) = tabsC L T ++ tabsC L U := by
  unfold tabsC
  exact List.flatMap_append
theorem tabsC_one (L : List F) (t : ByteArray) : tabsC L [t] = tabC L t := by
  unfold tabsC
  simp
theorem run_tabs {s : St} {R : List ByteArray} {Q : List (List CR)} {n c : Nat} (h : SI s R Q n c) {ops : List O} (hn : ∀ o ∈ ops, ∃ i, o.name = nameW (logW s.gen) i) : tabsC (run s.files ops).1 s.tabs = tabsC s.files s.tabs :=
  tabsC_lk fun t ht => run_lk fun o ho e => by
    obtain ⟨j, hj⟩ := hn o ho
    obtain ⟨i, _, hi⟩ := h.tname t ht
    exact log_t _ _ _ ((hj.symm.trans e).trans hi)
theorem kept_tabs {s : St} {R : List ByteArray} {Q : List (List CR)} {n c : Nat} (h : SI s R Q n c) (hc : c ≤ 600) {letter : ByteArray} {P : List PR} {K : List F} (hK : Kept s R letter P K) {T' : List ByteArray} {g' : Nat}
    (hs : ∀ t ∈ s.tabs, t ∈ T') : tabsC (keptF K T' g') s.tabs = tabsC s.files s.tabs :=
  tabsC_lk fun t ht => by
    obtain ⟨i, _, hi⟩ := h.tname t ht
    rw [keptF_lk (stray_tab (hs t ht)), hK.oth t (fun e => ?_) (fun j e => m_t j i (e.symm.trans hi))]
    obtain ⟨f, hf, -⟩ := h.tab t ht
    have := si_fresh h hc
    rw [← e, hf] at this
    cases this
end Go.Proofs.YtlnhbndghnkfmaaGreatDoor
namespace Go.Proofs.YtlnhbndghnkfmaaGreatDoor
open Go.RowKit

theorem liveK_tail (A M : List CR) (k : ByteArray) : liveK (A ++ (M.map pairC).map fromPR) k = liveK (A ++ M) k := by
  rw [liveK_append, liveK_append, List.map_map, lastK_map (f := fromPR ∘ pairC) (fun c => from_key c)]
  cases lastK M k with
  | none => rfl
  | some c => exact from_left c
theorem write_parts {s : St} {l : List CR} (hz : (writeR s l).2.2 = 0) : ∃ ops, (∀ o ∈ ops, ∃ i, o.name = nameW (logW s.gen) i) ∧ (writeR s l).1 = ⟨(run s.files ops).1, puts [] (s.mem ++ l), s.tabs, s.gen, s.marks⟩ := by
  unfold writeR at hz ⊢
  split at hz
  · rename_i hb
    exact absurd hz hb
  · rename_i hb
    rw [if_neg hb]
    split at hz
    · rename_i ha
      exact absurd hz ha
    · rename_i ha
      rw [if_neg ha]
      split at hz
      · exact absurd hz (by decide)
      · rename_i h1024
        rw [if_neg h1024]
        exact ⟨_, fun o ho => append_names ho, rfl⟩
theorem kept_new {s : St} {R : List ByteArray} {letter : ByteArray} {P : List PR} {K : List F} (hK : Kept s R letter P K) {T' : List ByteArray} {g' : Nat} (hm : nameW tabP s.marks ∈ T') : tabC (keptF K T' g') (nameW tabP s.marks) = P.map fromPR := by
  rw [inTab_lk (keptF_lk (stray_tab hm))]
  exact tabC_new hK.ok hK.tab
theorem act_live {s : St} {R : List ByteArray} {Q : List (List CR)} {n c : Nat} (h : SI s R Q n c) (hc : c ≤ 600) (k : Int) (l : List CR) (hz : (actR s k l).2.2 = 0) (key : ByteArray) :
    liveK (viewS (actR s k l).1) key = liveK (viewS s ++ (if kindN k = 0 then l else [])) key := by
  have hk := kindN_lt k
  unfold actR at hz ⊢
  by_cases h1 : kindN k = 1
  · rw [if_pos h1, if_neg (by omega), List.append_nil]
    have : viewS (safeR s).1 = viewS s := by
      show tabsC (run s.files (syncPlan s.files (logW s.gen))).1 s.tabs ++ s.mem = tabsC s.files s.tabs ++ s.mem
      rw [run_tabs h (fun o ho => sync_names ho)]
    rw [this]
  · rw [if_neg h1] at hz ⊢
    by_cases h2 : kindN k = 2
    · rw [if_pos h2] at hz ⊢
      rw [if_neg (by omega), List.append_nil]
      by_cases hm : s.mem.length = 0
      · have hf : flushR s = (s, [], 0) := by unfold flushR; rw [if_pos hm]
        rw [hf]
      · obtain ⟨K, hK, he, _⟩ := si_flush h hc hm hz
        rw [he]
        unfold viewS
        show liveK (tabsC (keptF K (s.tabs ++ [nameW tabP s.marks]) (s.gen + 1)) (s.tabs ++ [nameW tabP s.marks]) ++ []) key = _
        rw [List.append_nil, tabsC_append, kept_tabs h hc hK (fun t ht => List.mem_append_left _ ht), tabsC_one, kept_new hK (List.mem_append_right _ (List.mem_singleton.2 rfl))]
        exact liveK_tail _ _ _
    · rw [if_neg h2] at hz ⊢
      by_cases h3 : kindN k = 3
      · rw [if_pos h3] at hz ⊢
        rw [if_neg (by omega), List.append_nil]
        by_cases ht : s.tabs.length < 2
        · have hf : mergeR s = (s, [], 0) := by unfold mergeR; rw [if_pos ht]
          rw [hf]
        · obtain ⟨K, hK, he, _⟩ := si_merge h hc ht hz
          rw [he]
          unfold viewS
          show liveK (tabsC (keptF K [nameW tabP s.marks] s.gen) [nameW tabP s.marks] ++ s.mem) key = _
          rw [tabsC_one, kept_new hK (List.mem_singleton.2 rfl)]
          refine liveK_congr ?_ _
          rw [liveK_from]
          exact liveK_held _ _
      · rw [if_neg h3] at hz ⊢
        rw [if_pos (by omega)]
        obtain ⟨ops, hn, he⟩ := write_parts hz
        rw [he]
        unfold viewS
        show liveK (tabsC (run s.files ops).1 s.tabs ++ puts [] (s.mem ++ l)) key = _
        rw [run_tabs h hn, liveK_puts, List.append_assoc]
/-- What is held of a list of changes: of each key the last, without what is gone. -/
def heldL (W : List CR) : List CR := (puts [] W).filter fun c => !c.gone
theorem heldL_rising (W : List CR) : rising (heldL W) := List.Pairwise.filter _ (puts_rising W rising_nil)
theorem heldL_look (W : List CR) (k : ByteArray) : look (heldL W) k = (liveK W k).map fun v => ⟨k, v, false⟩ := by
  unfold heldL
  rw [look_filter (puts_rising W rising_nil), ← lastK_rising (puts_rising W rising_nil), lastK_puts]
  unfold liveK
  cases h : lastK W k with
  | none => rfl
  | some c =>
    have hk := (lastK_mem h).1
    show (if (!c.gone) = true then some c else none) = (leftC c).map _
    unfold leftC
    obtain ⟨ck, cv, cg⟩ := c
    cases cg with
    | true => rfl
    | false =>
      simp only at hk
      rw [hk]
      rfl
/-- Two lists that leave the same of each key hold the same. -/
theorem heldL_eq {V W : List CR} (h : ∀ k, liveK V k = liveK W k) : heldL V = heldL W :=
  rising_ext (heldL_rising V) (heldL_rising W) fun k => by rw [heldL_look, heldL_look, h k]
theorem rgOf_held (a b : ByteArray) (W : List CR) : rgOf a b (puts [] W) = ((heldL W).filter fun c => !lessS c.key a && lessS c.key b).map pairK := by
  unfold rgOf heldL
  rw [List.filter_filter]
  congr 2
  funext c
  unfold inRg
  cases c.gone <;> simp
theorem rangeS_held (s : St) (a b : ByteArray) {W : List CR} (h : ∀ k, liveK (viewS s) k = liveK W k) : rangeS s a b = ((heldL W).filter fun c => !lessS c.key a && lessS c.key b).map pairK := by
  unfold rangeS
  rw [rgOf_held]
  have : heldL (tabsC s.files s.tabs ++ s.mem) = heldL W := heldL_eq h
  rw [this]
end Go.Proofs.YtlnhbndghnkfmaaGreatDoor
