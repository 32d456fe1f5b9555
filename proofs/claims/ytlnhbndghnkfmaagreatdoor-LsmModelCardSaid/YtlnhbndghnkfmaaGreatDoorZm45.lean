/- Walks: Get: the program's. -/
import Derived.Test.YtlnhbndghnkfmaaGreatDoorZm44
import Derived.Test.YtlnhbndghnkfmaaGreatDoorZm11
namespace Go.Proofs.YtlnhbndghnkfmaaGreatDoor
open Go.RowKit Go.Shelf
attribute [local go_sem] Oper.semAt_some

/-- The value that a change leaves. -/
def leftC (c : CR) : Option ByteArray := if c.gone then none else some c.val
noncomputable def tabGet (L : List F) (nm key : ByteArray) : Option ByteArray := (allR (bytesF L nm).1.data.toList).bind fun ps => getR ps key
noncomputable def tabsGet (L : List F) (T : List ByteArray) (key : ByteArray) : Option ByteArray := T.reverse.findSome? fun nm => tabGet L nm key
/-- Get, in plain words. -/
noncomputable def getS (s : St) (key : ByteArray) : Option ByteArray := match lastK s.mem key with
  | some c => leftC c
  | none => match tabsGet s.files s.tabs key with
    | some v => leftC (fromPR ⟨key, v⟩)
    | none => none
def gotV (o : Option ByteArray) : Value := .tuple #[.string (o.getD ⟨#[]⟩), .bool o.isSome]
theorem rev_split {α : Type} {L : List α} (f : Nat → α) {N : Nat} (hN : N = L.length) (hf : ∀ i (h : i < L.length), f i = L[i]) (k : Nat) : ∃ rest, L.reverse = ((lastN N k).map fun x => f x.1) ++ rest := by
  refine ⟨(((List.finRange N).reverse.drop k).map fun x => f x.1), ?_⟩
  unfold lastN
  rw [← List.map_append, List.take_append_drop, List.map_reverse]
  congr 1
  subst hN
  apply List.ext_getElem
  · simp
  · intro i h1 h2
    simp only [List.getElem_map, List.getElem_finRange]
    exact (hf i h1).symm
theorem rev_all {α : Type} {L : List α} (f : Nat → α) {N : Nat} (hN : N = L.length) (hf : ∀ i (h : i < L.length), f i = L[i]) : L.reverse = (List.finRange N).reverse.map fun x => f x.1 := by
  obtain ⟨rest, h⟩ := rev_split f hN hf N
  rw [lastN_all] at h
  have hl := congrArg List.length h
  simp at hl
  have : rest = [] := List.length_eq_zero_iff.1 (by omega)
  rw [h, this, List.append_nil]
theorem bytesF_le {L : List F} (h : Fit L) (nm : ByteArray) : (bytesF L nm).1.size ≤ maxLen := by
  unfold bytesF
  cases hq : L[findF L nm]? with
  | none => exact Nat.zero_le _
  | some f =>
    have := h f (List.mem_of_getElem? hq)
    unfold FitF F.size at this
    show (f.kept ++ f.loose).size ≤ maxLen
    rw [ByteArray.size_append]
    unfold maxLen
    omega
theorem tgetVal_some {o : Option (List PR)} {key x : ByteArray} (h : (o.bind fun ps => getR ps key) = some x) : getVal o key = .tuple #[.string x, .bool true, .int .i64 0] := by
  cases o with
  | none => cases h
  | some L =>
    have h : getR L key = some x := h
    unfold getVal
    simp only [h]
theorem tgetVal_none {o : Option (List PR)} {key : ByteArray} (h : (o.bind fun ps => getR ps key) = none) : ∃ e : Int, getVal o key = .tuple #[.string ⟨#[]⟩, .bool false, .int .i64 e] := by
  cases o with
  | none => exact ⟨60, rfl⟩
  | some L =>
    have h : getR L key = none := h
    unfold getVal
    simp only [h]
    exact ⟨0, rfl⟩
theorem tabGet_small {L : List F} {nm key x : ByteArray} (h : tabGet L nm key = some x) : x.size ≤ 65536 := by
  unfold tabGet at h
  rcases ha : allR (bytesF L nm).1.data.toList with _ | ps
  · rw [ha] at h; cases h
  · rw [ha] at h
    have h : getR ps key = some x := h
    unfold getR at h
    rcases hf : ps.find? (fun p => eqS p.key key) with _ | p
    · rw [hf] at h; cases h
    · rw [hf] at h
      injection h with h
      rw [← h]
      exact (tab_small (allR_back ha).1 p (List.mem_of_find?_eq_some hf)).2
theorem fromPR_small {p : PR} (h : p.val.size ≤ 65536) : (fromPR p).val.size ≤ 281474976710656 := by
  unfold fromPR
  split
  · show (p.val.extract 1 p.val.size).size ≤ _
    rw [ByteArray.size_extract]
    omega
  · exact Nat.zero_le _
theorem there_val (f : CR) : (if f.gone then Value.tuple #[.string ⟨#[]⟩, .bool false] else .tuple #[.string f.val, .bool true]) = gotV (leftC f) := by
  unfold leftC
  cases f.gone <;> rfl
/-- What the loops have in memory. -/
structure GI (w : World) (vF vM vT : Value) (g m : Nat) (key : ByteArray) (vS : Value) (ty : TypeId) (bk : Nat) (W : World) : Prop where
  o2 : W.heap[w.heap.size]? = some (.cells #[vF, vM, vT, .int .i64 (g : Int), .int .i64 (m : Int)] 30 (0, 0))
  o3 : W.heap[w.heap.size + 1]? = some (.cells #[.string key] 9 (0, 0))
  o4 : W.heap[w.heap.size + 2]? = some (.cells #[.string ⟨#[]⟩] 9 (0, 0))
  o5 : W.heap[w.heap.size + 3]? = some (.cells #[.bool false] 4 (0, 0))
  k0 : W.heap[bk]? = some (.cells #[vS] ty (0, 0))
  gr : Gr w W
theorem GI.far {w : World} {vF vM vT : Value} {g m : Nat} {key : ByteArray} {vS : Value} {ty : TypeId} {bk : Nat} {W W' : World} {row : Option Nat} (h : GI w vF vM vT g m key vS ty bk W) (hg : W.grownBy W' row) (hB : ∀ r, row = some r → w.heap.size ≤ r)
    (hr : ∀ r, row = some r → ∃ o : Obj, W.heap[r]? = some o ∧ o.isCells = false) : GI w vF vM vT g m key vS ty bk W' :=
  ⟨cells_far h.o2 hg hr, cells_far h.o3 hg hr, cells_far h.o4 hg hr, cells_far h.o5 hg hr, cells_far h.k0 hg hr, gr_far h.gr hg hB⟩
theorem GI.gr' {w : World} {vF vM vT : Value} {g m : Nat} {key : ByteArray} {vS : Value} {ty : TypeId} {bk : Nat} {W W' : World} (h : GI w vF vM vT g m key vS ty bk W) (q : Gr W W') : GI w vF vM vT g m key vS ty bk W' :=
  ⟨gr_obj q h.o2, gr_obj q h.o3, gr_obj q h.o4, gr_obj q h.o5, gr_obj q h.k0, h.gr.trans q⟩
/-- .. where the answer stands in its cells. -/
structure GX (w : World) (x : ByteArray) (b : Bool) (W : World) : Prop where
  o4 : W.heap[w.heap.size + 2]? = some (.cells #[.string x] 9 (0, 0))
  o5 : W.heap[w.heap.size + 3]? = some (.cells #[.bool b] 4 (0, 0))
  gr : Gr w W
theorem GX.far {w : World} {x : ByteArray} {b : Bool} {W W' : World} {row : Option Nat} (h : GX w x b W) (hg : W.grownBy W' row) (hB : ∀ r, row = some r → w.heap.size ≤ r)
    (hr : ∀ r, row = some r → ∃ o : Obj, W.heap[r]? = some o ∧ o.isCells = false) : GX w x b W' :=
  ⟨cells_far h.o4 hg hr, cells_far h.o5 hg hr, gr_far h.gr hg hB⟩
theorem GI.put {w : World} {vF vM vT : Value} {g m : Nat} {key : ByteArray} {vS : Value} {ty : TypeId} {bk : Nat} {W : World} (h : GI w vF vM vT g m key vS ty bk W) (x : ByteArray) (b : Bool) : GX w x b ((W.setCell ⟨w.heap.size + 2, 0, none⟩ (.string x)).setCell ⟨w.heap.size + 3, 0, none⟩ (.bool b)) :=
  ⟨set_obj_other (set_obj h.o4 _) (by omega) _, set_obj (set_obj_other h.o5 (by omega) _) _, (h.gr.setCell (p := ⟨w.heap.size + 2, 0, none⟩) (by show w.heap.size ≤ w.heap.size + 2; omega) _).setCell (p := ⟨w.heap.size + 3, 0, none⟩) (by show w.heap.size ≤ w.heap.size + 3; omega) _⟩
set_option maxRecDepth 100000 in
set_option maxHeartbeats 4000000 in
theorem lget_any (v : Value) (s : St) (B : Nat) (key : ByteArray) (w : World) (hv : StO w B v s) (hf : Fit s.files) (hmv : ∀ c ∈ s.mem, c.val.size ≤ 281474976710656) (hH : Halves w) :
    Calls Tryz.prog 21 #[v, .string key] w fun e w' => e = .returned (gotV (getS s key)) ∧ Gr w w' := by
  obtain ⟨vF, vM, vT, rfl, hF, hM, hT⟩ := hv
  obtain ⟨AM, cM, rfl, hcM, hcM2⟩ := own_form hM
  obtain ⟨AT, cT, rfl, hcT, hcT2⟩ := own_form hT
  obtain ⟨AF, nF, cF, rfl⟩ : ∃ A n c, vF = .slice A n c := by
    obtain ⟨A, c, h, -, -⟩ := own_form hF
    exact ⟨A, _, c, h⟩
  obtain ⟨nM, hnM⟩ : ∃ n, n = s.mem.length := ⟨_, rfl⟩
  obtain ⟨nT, hnT⟩ : ∃ n, n = s.tabs.length := ⟨_, rfl⟩
  rw [← hnM] at hM hcM ⊢
  rw [← hnT] at hT hcT ⊢
  have HNM := Lib.hid hnM
  have HNT := Lib.hid hnT
  have HF := Lib.hid hF
  have HM := Lib.hid hM
  have HT := Lib.hid hT
  have HAM : Hid (∀ p, AM = some p → p.block < w.heap.size) := Lib.hid (fun p e => by subst e; exact (own_lt hM rfl).1)
  have HAT : Hid (∀ p, AT = some p → p.block < w.heap.size) := Lib.hid (fun p e => by subst e; exact (own_lt hT rfl).1)
  have HFIT := Lib.hid hf
  have HMV := Lib.hid hmv
  have HH := Lib.hid hH
  obtain ⟨r, hr⟩ : ∃ r, r = getS s key := ⟨_, rfl⟩
  rw [← hr]
  unfold getS at hr
  have HR := Lib.hid hr
  unfold stval
  obtain ⟨files, mem, tabs, g, m⟩ := s
  dsimp only at HF HM HT HNM HNT HFIT HMV HR ⊢
  clear hF hM hT hf hmv hH hr hnM hnT
  obtain ⟨W, hW, hg, ho2, ho3, ho4, ho5⟩ : ∃ W, W = (((w.alloc (.cells #[.slice AF nF cF, .slice AM nM cM, .slice AT nT cT, .int .i64 (g : Int), .int .i64 (m : Int)] 30)).alloc (.cells #[.string key] 9)).alloc (.cells #[.string ⟨#[]⟩] 9)).alloc (.cells #[.bool false] 4) ∧ Gr w W ∧ W.heap[w.heap.size]? = some (.cells #[.slice AF nF cF, .slice AM nM cM, .slice AT nT cT, .int .i64 (g : Int), .int .i64 (m : Int)] 30 (0, 0)) ∧ W.heap[w.heap.size + 1]? = some (.cells #[.string key] 9 (0, 0)) ∧ W.heap[w.heap.size + 2]? = some (.cells #[.string ⟨#[]⟩] 9 (0, 0)) ∧ W.heap[w.heap.size + 3]? = some (.cells #[.bool false] 4 (0, 0)) := by
    refine ⟨_, rfl, ((((Gr.refl w).alloc _).alloc _).alloc _).alloc _, gr_obj (((gr_box _ _).alloc _).alloc _) (heap_alloc_new w _), ?_, ?_, ?_⟩
    · have h := gr_obj ((gr_box ((w.alloc (.cells #[.slice AF nF cF, .slice AM nM cM, .slice AT nT cT, .int .i64 (g : Int), .int .i64 (m : Int)] 30)).alloc (.cells #[.string key] 9)) (.cells #[.string ⟨#[]⟩] 9)).alloc (.cells #[.bool false] 4)) (heap_alloc_new (w.alloc (.cells #[.slice AF nF cF, .slice AM nM cM, .slice AT nT cT, .int .i64 (g : Int), .int .i64 (m : Int)] 30)) (.cells #[.string key] 9))
      simpa using h
    · have h := gr_obj (gr_box (((w.alloc (.cells #[.slice AF nF cF, .slice AM nM cM, .slice AT nT cT, .int .i64 (g : Int), .int .i64 (m : Int)] 30)).alloc (.cells #[.string key] 9)).alloc (.cells #[.string ⟨#[]⟩] 9)) (.cells #[.bool false] 4)) (heap_alloc_new ((w.alloc (.cells #[.slice AF nF cF, .slice AM nM cM, .slice AT nT cT, .int .i64 (g : Int), .int .i64 (m : Int)] 30)).alloc (.cells #[.string key] 9)) (.cells #[.string ⟨#[]⟩] 9))
      simpa using h
    · have h := heap_alloc_new (((w.alloc (.cells #[.slice AF nF cF, .slice AM nM cM, .slice AT nT cT, .int .i64 (g : Int), .int .i64 (m : Int)] 30)).alloc (.cells #[.string key] 9)).alloc (.cells #[.string ⟨#[]⟩] 9)) (.cells #[.bool false] 4)
      simpa using h
  have hsz : W.heap.size = w.heap.size + 4 := by rw [hW]; simp
  have HSZ := Lib.hid hsz
  have HG := Lib.hid hg
  have HO2 := Lib.hid ho2
  have HO3 := Lib.hid ho3
  have HO4 := Lib.hid ho4
  have HO5 := Lib.hid ho5
  have c1 := obj_cell ho2 (i := 1) rfl
  clear hg ho2 ho3 ho4 ho5 hsz
  refine (callsIn_wide (n := 8)).1 ?_
  refine callsIn_of_wp_marks Tryz.func21 rfl trivial ?_ rfl
  simp only [Tryz.ntmps21, List.size_toArray, List.length_cons, List.length_nil, Nat.reduceAdd, Nat.reduceSub, Array.replicate_succ, Array.replicate_zero, List.push_toArray, List.append_toArray, List.nil_append, List.cons_append]
  gi_upto_region 1 with (fail)
  rw [← hW]
  clear hW
  gi_wp2_with fail
  refine ⟨trivial, ?_⟩
  refine (callsIn_wide.2 (bC_any _ _ _ _)).mono ?_
  rintro e w4 ⟨rfl, hw4⟩
  rw [HSZ.out]
  have hg4 : Gr W w4 := by rw [hw4]; exact gr_box _ _
  have hk0 : w4.heap[w.heap.size + 4]? = some (.cells #[.slice AM nM cM] 27 (0, 0)) := by
    rw [hw4, ← HSZ.out]
    exact heap_alloc_new W _
  have st0 : GI w (.slice AF nF cF) (.slice AM nM cM) (.slice AT nT cT) g m key (.slice AM nM cM) 27 (w.heap.size + 4) w4 :=
    ⟨gr_obj hg4 HO2.out, gr_obj hg4 HO3.out, gr_obj hg4 HO4.out, gr_obj hg4 HO5.out, hk0, HG.out.trans hg4⟩
  have HS0 := Lib.hid st0
  have HLT : Hid (w.heap.size + 4 < w4.heap.size) := Lib.hid (Array.getElem?_eq_some_iff.1 hk0).1
  have HC0 : Hid (w4.cell? ⟨w.heap.size + 4, 0, none⟩ = some (.slice AM nM cM)) := Lib.hid (obj_cell hk0 (i := 0) rfl)
  have HWS : Hid (w.heap.size ≤ w4.heap.size) := Lib.hid (Nat.le_trans (Nat.le_add_right _ 4) (Nat.le_of_lt HLT.out))
  have HAM4 : Hid (∀ p, AM = some p → p.block < w4.heap.size) := Lib.hid (fun p e => Nat.lt_of_lt_of_le (HAM.out p e) HWS.out)
  have HCV4 : Hid (CV w4 (.slice AM nM cM) mem) := Lib.hid (HM.out.cv.gr st0.gr)
  clear hw4 hg4 hk0 st0 c1
  gi_wp2_with fail
  refine' wpIn_rangeFunc_ownH (F := Fence.wide) rfl (by decide) (gf := 96) (lb := #[.pointer (some ⟨w.heap.size + 4, 0, none⟩)]) rfl trivial (enters_of Tryz.func96 (by kernel_rfl) rfl)
    (bC_stops 7 (by decide) (w.heap.size + 4) AM nM cM mem hcM hcM2 w4 HLT.out HAM4.out HC0.out HCV4.out) (fun h k => h.trans k)
    (fun W l o o' hl _ _ _ => ⟨World.putObj_heap_other (by have := HLT.out; omega), fun p e => World.putObj_heap_other (by have := HAM4.out p e; omega)⟩) (Below.refl _ _) (fun _ => rfl)
    (fun pre W => (∀ x ∈ pre, (atC mem x.1).key ≠ key) ∧ GI w (.slice AF nF cF) (.slice AM nM cM) (.slice AT nT cT) g m key (.slice AM nM cM) 27 (w.heap.size + 4) W)
    (fun c pre W => c = .ret ∧ ∃ pre0 x, pre = pre0 ++ [x] ∧ (∀ y ∈ pre0, (atC mem y.1).key ≠ key) ∧ (atC mem x.1).key = key ∧ GX w ((leftC (atC mem x.1)).getD ⟨#[]⟩) (leftC (atC mem x.1)).isSome W)
    (fun pre A B' row hs hg hr => ⟨hs.1, hs.2.far hg (fun r e => Nat.le_trans HWS.out (hr r e).1) (fun r e => (hr r e).2)⟩)
    (fun c pre A B' row hs hg hr => ⟨hs.1, hs.2.imp fun pre0 h => h.imp fun x h => ⟨h.1, h.2.1, h.2.2.1, h.2.2.2.far hg (fun r e => Nat.le_trans HWS.out (hr r e).1) (fun r e => (hr r e).2)⟩⟩)
    ⟨fun x hx => by (cases hx), HS0.out⟩
    (fun x a' W => ∃ Bx, w.heap.size + 4 < Bx ∧ W.heap[Bx]? = some (.cells #[.string (atC mem x.1).key, .string (atC mem x.1).val, .bool (atC mem x.1).gone] 70 (0, 0)) ∧ a' = ⟨#[.agg #[.slice AF nF cF, .slice AM nM cM, .slice AT nT cT, .int .i64 (g : Int), .int .i64 (m : Int)], .string key, .pointer (some ⟨w.heap.size, 0, none⟩), .pointer (some ⟨w.heap.size + 1, 0, none⟩), .pointer (some ⟨w.heap.size + 2, 0, none⟩), .pointer (some ⟨w.heap.size + 3, 0, none⟩), undef, .pointer (some ⟨Bx, 0, none⟩), undef, undef, undef, undef, undef, undef, undef, .pointer (some ⟨w.heap.size, 1, none⟩), .slice AM nM cM, .func (.func 96) #[] #[.pointer (some ⟨w.heap.size + 4, 0, none⟩)], .int .i64 (x.1 : Int), .agg #[.string (atC mem x.1).key, .string (atC mem x.1).val, .bool (atC mem x.1).gone], undef, undef, undef, undef, undef, undef, undef, undef, undef, undef, undef, undef, undef, undef, undef, undef, undef, undef, undef, undef, undef, undef, undef, undef, undef, undef, undef, undef, undef, undef, undef, undef, undef, undef, undef], []⟩)
    (fun x a' _ A B' row hs hg hr => hs.imp fun Bx h => ⟨h.1, cells_far h.2.1 hg (fun r e => (hr r e).2), h.2.2⟩)
    ?assign ?body ?done ?stop
  case assign =>
    intro l pre x W K hi hK
    unfold vC
    obtain ⟨f, hf⟩ : ∃ f, f = atC mem x.1 := ⟨_, rfl⟩
    rw [← hf] at hK ⊢
    obtain ⟨hpre, st⟩ := hi
    have HST := Lib.hid st
    clear st hf
    gi_wp2_with fail
    have h3 := (Array.getElem?_eq_some_iff.1 HST.out.k0).1
    refine hK _ _ ((KeepsOthers.alloc _ _).from _) ?_ ⟨hpre, HST.out.gr' (gr_box _ _)⟩ ⟨W.heap.size, h3, heap_alloc_new _ _, rfl⟩
    exact KeptS.of_block (fun k hk _ => (gr_box W _).block k hk) h3 (fun p e => Nat.lt_of_lt_of_le (HAM.out p e) HST.out.gr.size)
  case body =>
    rintro l pre x a' W hl ⟨r0, hr0⟩ ⟨hpre, st⟩ ⟨Bx, hBx, hx, rfl⟩ hlt
    have HST := Lib.hid st
    have HX := Lib.hid hx
    have HPRE := Lib.hid hpre
    have hxN : x.1 < mem.length := by rw [← HNM.out]; exact x.2
    have hmv := HMV.out (atC mem x.1) (by rw [atC_get hxN]; exact List.getElem_mem hxN)
    have HTH := Lib.hid (there_any (atC mem x.1) hmv W)
    obtain ⟨f, hf⟩ : ∃ f, f = atC mem x.1 := ⟨_, rfl⟩
    have HFE := Lib.hid hf
    rw [← hf] at hx HTH
    rw [there_val] at HTH
    unfold cval gotV at HTH
    obtain ⟨sv, hsv⟩ : ∃ y, y = (leftC f).getD ⟨#[]⟩ := ⟨_, rfl⟩
    obtain ⟨bv, hbv⟩ : ∃ y, y = (leftC f).isSome := ⟨_, rfl⟩
    rw [← hsv, ← hbv] at HTH
    have HSB := Lib.hid (And.intro hsv hbv)
    clear hsv hbv
    have x0 := obj_cell hx (i := 0) rfl
    have x1 := obj_cell hx (i := 1) rfl
    have x2 := obj_cell hx (i := 2) rfl
    have k0 := obj_cell st.o3 (i := 0) rfl
    have HK0 := Lib.hid st.k0
    clear st hx hpre hmv hf hxN hr0 hl
    rcases hq : eqS f.key key with _ | _
    · have t0 : (f.key.toList == key.toList) = false := hq
      have HNE : Hid ((atC mem x.1).key ≠ key) := Lib.hid (fun e => by rw [HFE.out, e, eqS_self] at hq; cases hq)
      clear hq
      gi_wp2_with fail
      refine ⟨(KeepsOthers.refl _).from _, KeptS.refl _ _ _, fun y hy => ?_, HST.out⟩
      rcases List.mem_append.1 hy with hy | hy
      · exact HPRE.out y hy
      · rw [List.mem_singleton.1 hy]
        exact HNE.out
    · have t0 : (f.key.toList == key.toList) = true := hq
      have HEQ : Hid ((atC mem x.1).key = key) := Lib.hid (by rw [← HFE.out]; exact eqS_iff.1 hq)
      clear hq
      gi_wp2_with fail
      refine ⟨trivial, ?_⟩
      refine (CallsIn.inRound l (callsIn_wide.2 HTH.out)).mono ?_
      rintro e w5 ⟨rfl, g5⟩
      have HST5 := Lib.hid (HST.out.gr' g5)
      have HG5 := Lib.hid g5
      have z4 := obj_cell HST5.out.o4 (i := 0) rfl
      have z5 := obj_cell HST5.out.o5 (i := 0) rfl
      have f4 := obj_free (i := 0) HST5.out.o4
      have f5 := obj_free (i := 0) HST5.out.o5
      clear g5 HTH
      gi_wp2_with fail
      refine ⟨(((ko_gr HG5.out).trans (KeepsOthers.setCell _ _ _)).trans (KeepsOthers.setCell _ _ _)).from _, rfl, pre, x, rfl, HPRE.out, HEQ.out, ?_⟩
      have h := HST5.out.put sv bv
      rw [HFE.out] at HSB
      rw [← HSB.out.1, ← HSB.out.2]
      exact h
  case stop =>
    rintro Dx c pre W hD hsp ⟨rfl, pre0, x, hpre, hno, hyes, gx⟩ hK
    obtain ⟨k, hk, hpk⟩ := hsp
    have hlk : lastK mem key = some (atC mem x.1) := by
      obtain ⟨rest, hrest⟩ := rev_split (L := mem) (atC mem) HNM.out (fun i h => atC_get h) k
      rw [← hpk, hpre] at hrest
      unfold lastK look
      rw [hrest, List.map_append, List.append_assoc, List.find?_append]
      have h1 : (pre0.map fun x => atC mem x.1).find? (fun c => eqS c.key key) = none := by
        rw [List.find?_eq_none]
        intro c hc
        obtain ⟨y, hy, rfl⟩ := List.mem_map.1 hc
        rw [eqS_ne (hno y hy)]
        decide
      rw [h1, Option.none_or]
      show ((atC mem x.1) :: rest).find? _ = _
      rw [List.find?_cons_of_pos (by rw [hyes]; exact eqS_self _)]
    have e := HR.out
    rw [hlk] at e
    have HE := Lib.hid e
    have HK := Lib.hid hK
    have HDX := Lib.hid (Nat.le_trans HWS.out hD)
    have HGX := Lib.hid gx
    obtain ⟨sv, hsv⟩ : ∃ y, y = (leftC (atC mem x.1)).getD ⟨#[]⟩ := ⟨_, rfl⟩
    obtain ⟨bv, hbv⟩ : ∃ y, y = (leftC (atC mem x.1)).isSome := ⟨_, rfl⟩
    rw [← hsv, ← hbv] at HGX
    have HSB := Lib.hid (And.intro hsv hbv)
    clear hlk e hK hD gx hpre hno hyes hpk hk hsv hbv
    gi_wp2_with fail
    refine ⟨by simp, .inl ⟨_, _, rfl, run_takeDeferred HK.out, ?_⟩⟩
    have hgF : W.grownBy (W.putObj Dx (.deferred none)) (some Dx) := grownBy_putObj' _ _ _
    have hfin := HGX.out.far hgF (fun r e => by cases e; exact HDX.out) (fun r e => by cases e; exact ⟨_, HK.out, rfl⟩)
    have z4 : (W.putObj Dx (.deferred none)).cell? ⟨w.heap.size + 1 + 1, 0, none⟩ = some (.string sv) := obj_cell hfin.o4 (i := 0) rfl
    have z5 : (W.putObj Dx (.deferred none)).cell? ⟨w.heap.size + 1 + 1 + 1, 0, none⟩ = some (.bool bv) := obj_cell hfin.o5 (i := 0) rfl
    refine ⟨.tuple #[.string sv, .bool bv], ?_, ?_⟩
    · simp [results, Tryz.f21, go_sem, z4, z5]
    · rw [HE.out]
      refine ⟨?_, hfin.gr⟩
      unfold gotV
      rw [HSB.out.1, HSB.out.2]
  case done =>
    rintro Dx ys W hD rfl ⟨hno, st⟩ hK
    have hlk : lastK mem key = none := by
      have hall := rev_all (L := mem) (atC mem) HNM.out (fun i h => atC_get h)
      unfold lastK look
      rw [hall, List.find?_eq_none]
      intro c hc
      obtain ⟨y, hy, rfl⟩ := List.mem_map.1 hc
      rw [eqS_ne (hno y hy)]
      decide
    have e := HR.out
    rw [hlk] at e
    have HE := Lib.hid e
    have HK := Lib.hid hK
    have HDX := Lib.hid hD
    have HST := Lib.hid st
    have c2 := obj_cell st.o2 (i := 2) rfl
    clear hlk e hK hD st hno
    gi_wp2_with fail
    refine ⟨trivial, ?_⟩
    refine (callsIn_wide.2 (bS_any _ _ _ _)).mono ?_
    rintro e w6 ⟨rfl, hw6⟩
    have hg6 : Gr W w6 := by rw [hw6]; exact gr_box _ _
    have hk6 : w6.heap[W.heap.size]? = some (.cells #[.slice AT nT cT] 28 (0, 0)) := by
      rw [hw6]
      exact heap_alloc_new W _
    obtain ⟨bk, hbk⟩ : ∃ b, b = W.heap.size := ⟨_, rfl⟩
    rw [← hbk] at hk6 ⊢
    have st6 : GI w (.slice AF nF cF) (.slice AM nM cM) (.slice AT nT cT) g m key (.slice AT nT cT) 28 bk w6 :=
      ⟨gr_obj hg6 HST.out.o2, gr_obj hg6 HST.out.o3, gr_obj hg6 HST.out.o4, gr_obj hg6 HST.out.o5, hk6, HST.out.gr.trans hg6⟩
    have HS6 := Lib.hid st6
    have HK6 : Hid (w6.heap[Dx]? = some (.deferred (some []))) := Lib.hid (gr_obj hg6 HK.out)
    have HDL : Hid (Dx < w6.heap.size) := Lib.hid (Array.getElem?_eq_some_iff.1 HK6.out).1
    have HLT6 : Hid (bk < w6.heap.size) := Lib.hid (Array.getElem?_eq_some_iff.1 hk6).1
    have HC6 : Hid (w6.cell? ⟨bk, 0, none⟩ = some (.slice AT nT cT)) := Lib.hid (obj_cell hk6 (i := 0) rfl)
    have HWS6 : Hid (w.heap.size ≤ w6.heap.size) := Lib.hid st6.gr.size
    have HAT6 : Hid (∀ p, AT = some p → p.block < w6.heap.size) := Lib.hid (fun p e => Nat.lt_of_lt_of_le (HAT.out p e) HWS6.out)
    have HSV6 : Hid (SV w6 (.slice AT nT cT) tabs) := Lib.hid (HT.out.sv.gr st6.gr)
    have HDW : Hid (w.heap.size ≤ Dx) := Lib.hid (Nat.le_trans HWS.out HDX.out)
    clear hw6 hg6 hk6 st6 c2 hbk
    gi_wp2_with fail
    refine' wpIn_rangeFunc_ownF (F := Fence.wide) rfl (by decide) (gf := 97) (lb := #[.pointer (some ⟨bk, 0, none⟩)]) rfl trivial (enters_of Tryz.func97 (by kernel_rfl) rfl)
      (bS_stops 7 (by decide) bk AT nT cT tabs hcT hcT2 w6 HLT6.out HAT6.out HC6.out HSV6.out) (fun h k => h.trans k)
      (fun W l o o' hl _ _ _ => ⟨World.putObj_heap_other (Nat.ne_of_lt (Nat.lt_of_lt_of_le HLT6.out hl)), fun p e => World.putObj_heap_other (Nat.ne_of_lt (Nat.lt_of_lt_of_le (HAT6.out p e) hl))⟩) (Below.refl _ _) (fun _ => rfl)
      (fun pre W => (∀ x ∈ pre, tabGet files (atS tabs x.1) key = none) ∧ GI w (.slice AF nF cF) (.slice AM nM cM) (.slice AT nT cT) g m key (.slice AT nT cT) 28 bk W ∧ W.heap[Dx]? = some (.deferred (some [])))
      (fun c pre W => c = .ret ∧ (∃ pre0 x y, pre = pre0 ++ [x] ∧ (∀ z ∈ pre0, tabGet files (atS tabs z.1) key = none) ∧ tabGet files (atS tabs x.1) key = some y ∧ GX w ((leftC (fromPR ⟨key, y⟩)).getD ⟨#[]⟩) (leftC (fromPR ⟨key, y⟩)).isSome W) ∧ W.heap[Dx]? = some (.deferred (some [])))
      (fun pre A B' row hs hg hr => ⟨hs.1, hs.2.1.far hg (fun r e => Nat.le_trans HWS6.out (hr r e).1) (fun r e => (hr r e).2), (hg.block Dx (Array.getElem?_eq_some_iff.1 hs.2.2).1 (fun e => Nat.lt_irrefl _ (Nat.lt_of_lt_of_le HDL.out (hr Dx e.symm).1))).trans hs.2.2⟩)
      (fun c pre A B' row hs hg hr => ⟨hs.1, hs.2.1.imp fun pre0 h => h.imp fun x h => h.imp fun y h => ⟨h.1, h.2.1, h.2.2.1, h.2.2.2.far hg (fun r e => Nat.le_trans HWS6.out (hr r e).1) (fun r e => (hr r e).2)⟩, (hg.block Dx (Array.getElem?_eq_some_iff.1 hs.2.2).1 (fun e => Nat.lt_irrefl _ (Nat.lt_of_lt_of_le HDL.out (hr Dx e.symm).1))).trans hs.2.2⟩)
      ⟨fun x hx => by (cases hx), HS6.out, HK6.out⟩ _ ?assign2 ?body2 ?done2 ?stop2
    case assign2 =>
      intro l x W K hK
      unfold vS
      gi_wp2_with fail
      exact hK
    case body2 =>
      rintro l pre x W ⟨hpre, st, hkd⟩ hlt
      have HST := Lib.hid st
      have HPRE := Lib.hid hpre
      have HKD := Lib.hid hkd
      obtain ⟨nm, hnm⟩ : ∃ y, y = atS tabs x.1 := ⟨_, rfl⟩
      have HNMX := Lib.hid hnm
      rw [← hnm]
      have HBY := Lib.hid (bytes_any (.slice AF nF cF) files nm W (HF.out.fv.gr st.gr) HFIT.out)
      obtain ⟨by1, hby⟩ : ∃ y, y = (bytesF files nm).1 := ⟨_, rfl⟩
      obtain ⟨be, hbe⟩ : ∃ y, y = (bytesF files nm).2 := ⟨_, rfl⟩
      have hbs : by1.size ≤ maxLen := by rw [hby]; exact bytesF_le HFIT.out nm
      unfold bytesV at HBY
      rw [← hby, ← hbe] at HBY
      have HTG : Hid (tabGet files (atS tabs x.1) key = (allR by1.data.toList).bind fun ps => getR ps key) := Lib.hid (by unfold tabGet; rw [← HNMX.out, ← hby])
      have HGT := Lib.hid (fun w1 (q : Gr W w1) => get_any by1 key hbs w1 (HH.out.gr (HST.out.gr.trans q)))
      have s0 := obj_cell st.o2 (i := 0) rfl
      clear st hpre hkd hnm hby hbe hbs hlt
      gi_wp2_with fail
      refine ⟨trivial, ?_⟩
      refine (CallsIn.inRound l (callsIn_wide.2 HBY.out)).mono ?_
      rintro e w7 ⟨rfl, g7⟩
      have HG7 := Lib.hid g7
      have k0 := obj_cell (gr_obj g7 HST.out.o3) (i := 0) rfl
      have HT7 := Lib.hid (HGT.out w7 g7)
      clear g7 s0 HBY HGT
      rcases hg : tabGet files (atS tabs x.1) key with _ | y
      · have HN := Lib.hid hg
        have hg2 := HTG.out
        rw [hg] at hg2
        obtain ⟨er, her⟩ := tgetVal_none hg2.symm
        rw [her] at HT7
        clear hg hg2 her
        gi_wp2_with fail
        refine ⟨trivial, ?_⟩
        refine (CallsIn.inRound l (callsIn_wide.2 HT7.out)).mono ?_
        rintro e w8 ⟨rfl, g8⟩
        have HG8 := Lib.hid (HG7.out.trans g8)
        clear g8 k0 HT7
        gi_wp2_with fail
        refine ⟨ko_gr HG8.out, KeptS.of_block (fun k hk _ => HG8.out.block k hk) (Array.getElem?_eq_some_iff.1 HST.out.k0).1 (fun p e => Nat.lt_of_lt_of_le (HAT.out p e) HST.out.gr.size), fun z hz => ?_, HST.out.gr' HG8.out, gr_obj HG8.out HKD.out⟩
        rcases List.mem_append.1 hz with hz | hz
        · exact HPRE.out z hz
        · rw [List.mem_singleton.1 hz]
          exact HN.out
      · have HY := Lib.hid hg
        have HYS := Lib.hid (tabGet_small hg)
        have hg2 := HTG.out
        rw [hg] at hg2
        rw [tgetVal_some hg2.symm] at HT7
        clear hg hg2
        gi_wp2_with fail
        refine ⟨trivial, ?_⟩
        refine (CallsIn.inRound l (callsIn_wide.2 HT7.out)).mono ?_
        rintro e w8 ⟨rfl, g8⟩
        have HG8 := Lib.hid (HG7.out.trans g8)
        have k0 := obj_cell (gr_obj HG8.out HST.out.o3) (i := 0) rfl
        have HFT := Lib.hid (fromTable_any ⟨key, y⟩ (Nat.le_trans HYS.out (by decide)) w8)
        dsimp only at HFT
        clear g8 HT7
        gi_wp2_with fail
        refine ⟨trivial, ?_⟩
        refine (CallsIn.inRound l (callsIn_wide.2 HFT.out)).mono ?_
        rintro e w9 ⟨rfl, g9⟩
        have HG9 := Lib.hid (HG8.out.trans g9)
        obtain ⟨f, hf⟩ : ∃ f, f = fromPR ⟨key, y⟩ := ⟨_, rfl⟩
        rw [← hf]
        have HFE := Lib.hid hf
        have HTH := Lib.hid (there_any f (by rw [hf]; exact fromPR_small HYS.out) w9)
        rw [there_val] at HTH
        unfold cval at HTH ⊢
        unfold gotV at HTH
        obtain ⟨sv, hsv⟩ : ∃ y, y = (leftC f).getD ⟨#[]⟩ := ⟨_, rfl⟩
        obtain ⟨bv, hbv⟩ : ∃ y, y = (leftC f).isSome := ⟨_, rfl⟩
        rw [← hsv, ← hbv] at HTH
        have HSB := Lib.hid (And.intro hsv hbv)
        clear hsv hbv hf g9 HFT k0
        gi_wp2_with fail
        refine ⟨trivial, ?_⟩
        refine (CallsIn.inRound l (callsIn_wide.2 HTH.out)).mono ?_
        rintro e w10 ⟨rfl, g10⟩
        have HG10 := Lib.hid (HG9.out.trans g10)
        have HST5 := Lib.hid (HST.out.gr' HG10.out)
        have z4 : w10.cell? ⟨w.heap.size + 1 + 1, 0, none⟩ = some (.string ⟨#[]⟩) := obj_cell HST5.out.o4 (i := 0) rfl
        have z5 : w10.cell? ⟨w.heap.size + 1 + 1 + 1, 0, none⟩ = some (.bool false) := obj_cell HST5.out.o5 (i := 0) rfl
        have f4 : w10.frozen? ⟨w.heap.size + 1 + 1, 0, none⟩ = false := obj_free (i := 0) HST5.out.o4
        have f5 : w10.frozen? ⟨w.heap.size + 1 + 1 + 1, 0, none⟩ = false := obj_free (i := 0) HST5.out.o5
        clear g10 HTH
        gi_wp2_with fail
        have hkd := gr_obj HG10.out HKD.out
        have hd4 : Dx ≠ w.heap.size + 2 := fun e => by rw [e, HST5.out.o4] at hkd; cases hkd
        have hd5 : Dx ≠ w.heap.size + 3 := fun e => by rw [e, HST5.out.o5] at hkd; cases hkd
        refine ⟨((ko_gr HG10.out).trans (KeepsOthers.setCell _ _ _)).trans (KeepsOthers.setCell _ _ _), rfl, ⟨pre, x, y, rfl, HPRE.out, HY.out, ?_⟩, set_obj_other (set_obj_other hkd hd4 _) hd5 _⟩
        have h := HST5.out.put sv bv
        rw [HFE.out] at HSB
        rw [← HSB.out.1, ← HSB.out.2]
        exact h
    case stop2 =>
      rintro D2 c pre W2 hD2 hsp ⟨rfl, ⟨pre0, x, y, hpre, hno, hyes, gx⟩, hkd⟩ hK2
      obtain ⟨k, hk, hpk⟩ := hsp
      have htg : tabsGet files tabs key = some y := by
        obtain ⟨rest, hrest⟩ := rev_split (L := tabs) (atS tabs) HNT.out (fun i h => atS_get h) k
        rw [← hpk, hpre] at hrest
        unfold tabsGet
        rw [hrest, List.map_append, List.append_assoc, List.findSome?_append]
        have h1 : (pre0.map fun x => atS tabs x.1).findSome? (fun nm => tabGet files nm key) = none := by
          rw [List.findSome?_eq_none_iff]
          intro c hc
          obtain ⟨z, hz, rfl⟩ := List.mem_map.1 hc
          exact hno z hz
        rw [h1, Option.none_or]
        show ((atS tabs x.1) :: rest).findSome? _ = _
        rw [List.findSome?_cons, hyes]
      have e := HE.out
      rw [htg] at e
      have HE2 := Lib.hid e
      have HK2 := Lib.hid hK2
      have HKD := Lib.hid hkd
      have HD2W := Lib.hid (Nat.le_trans HWS6.out hD2)
      have HDD : Hid (Dx ≠ D2) := Lib.hid (Nat.ne_of_lt (Nat.lt_of_lt_of_le HDL.out hD2))
      have HGX := Lib.hid gx
      obtain ⟨sv, hsv⟩ : ∃ z, z = (leftC (fromPR ⟨key, y⟩)).getD ⟨#[]⟩ := ⟨_, rfl⟩
      obtain ⟨bv, hbv⟩ : ∃ z, z = (leftC (fromPR ⟨key, y⟩)).isSome := ⟨_, rfl⟩
      rw [← hsv, ← hbv] at HGX
      have HSB := Lib.hid (And.intro hsv hbv)
      clear htg e hK2 hD2 gx hpre hno hyes hpk hk hsv hbv hkd
      gi_wp2_with fail
      have hk1 : (W2.putObj D2 (.deferred none)).heap[Dx]? = some (.deferred (some [])) := put_other HKD.out HDD.out
      refine ⟨by simp, .inl ⟨_, _, rfl, run_takeDeferred HK2.out, by simp, .inl ⟨_, _, rfl, run_takeDeferred hk1, ?_⟩⟩⟩
      have hf1 := HGX.out.far (grownBy_putObj' W2 D2 (.deferred none)) (fun r e => by cases e; exact HD2W.out) (fun r e => by cases e; exact ⟨_, HK2.out, rfl⟩)
      have hfin := hf1.far (grownBy_putObj' _ Dx (.deferred none)) (fun r e => by cases e; exact HDW.out) (fun r e => by cases e; exact ⟨_, hk1, rfl⟩)
      have z4 : ((W2.putObj D2 (.deferred none)).putObj Dx (.deferred none)).cell? ⟨w.heap.size + 1 + 1, 0, none⟩ = some (.string sv) := obj_cell hfin.o4 (i := 0) rfl
      have z5 : ((W2.putObj D2 (.deferred none)).putObj Dx (.deferred none)).cell? ⟨w.heap.size + 1 + 1 + 1, 0, none⟩ = some (.bool bv) := obj_cell hfin.o5 (i := 0) rfl
      refine ⟨.tuple #[.string sv, .bool bv], ?_, ?_⟩
      · simp [results, Tryz.f21, go_sem, z4, z5]
      · rw [HE2.out]
        refine ⟨?_, hfin.gr⟩
        unfold gotV
        rw [HSB.out.1, HSB.out.2]
    case done2 =>
      rintro D2 ys W2 hD2 rfl ⟨hno, st, hkd⟩ hK2
      have htg : tabsGet files tabs key = none := by
        have hall := rev_all (L := tabs) (atS tabs) HNT.out (fun i h => atS_get h)
        unfold tabsGet
        rw [hall, List.findSome?_eq_none_iff]
        intro c hc
        obtain ⟨z, hz, rfl⟩ := List.mem_map.1 hc
        exact hno z hz
      have e := HE.out
      rw [htg] at e
      have HE2 := Lib.hid e
      have HK2 := Lib.hid hK2
      have HKD := Lib.hid hkd
      have HD2W := Lib.hid (Nat.le_trans HWS6.out hD2)
      have HDD : Hid (Dx ≠ D2) := Lib.hid (Nat.ne_of_lt (Nat.lt_of_lt_of_le HDL.out hD2))
      have HST := Lib.hid st
      have z4 : W2.cell? ⟨w.heap.size + 1 + 1, 0, none⟩ = some (.string ⟨#[]⟩) := obj_cell st.o4 (i := 0) rfl
      have z5 : W2.cell? ⟨w.heap.size + 1 + 1 + 1, 0, none⟩ = some (.bool false) := obj_cell st.o5 (i := 0) rfl
      have f4 : W2.frozen? ⟨w.heap.size + 1 + 1, 0, none⟩ = false := obj_free (i := 0) st.o4
      have f5 : W2.frozen? ⟨w.heap.size + 1 + 1 + 1, 0, none⟩ = false := obj_free (i := 0) st.o5
      clear htg e hK2 hD2 st hno hkd
      gi_wp2_with fail
      clear z4 z5 f4 f5
      have h2a : D2 ≠ w.heap.size + 2 := fun e => by
        have h := HK2.out
        rw [e, HST.out.o4] at h
        cases h
      have h3a : D2 ≠ w.heap.size + 3 := fun e => by
        have h := HK2.out
        rw [e, HST.out.o5] at h
        cases h
      have h2b : Dx ≠ w.heap.size + 2 := fun e => by
        have h := HKD.out
        rw [e, HST.out.o4] at h
        cases h
      have h3b : Dx ≠ w.heap.size + 3 := fun e => by
        have h := HKD.out
        rw [e, HST.out.o5] at h
        cases h
      have hgx := HST.out.put ⟨#[]⟩ false
      have hk2 := set_obj_other (set_obj_other HK2.out h2a (.string ⟨#[]⟩) (i := 0)) h3a (.bool false) (i := 0)
      have hkd := set_obj_other (set_obj_other HKD.out h2b (.string ⟨#[]⟩) (i := 0)) h3b (.bool false) (i := 0)
      obtain ⟨W3, hW3⟩ : ∃ W3, W3 = (W2.setCell ⟨w.heap.size + 2, 0, none⟩ (.string ⟨#[]⟩)).setCell ⟨w.heap.size + 3, 0, none⟩ (.bool false) := ⟨_, rfl⟩
      rw [← hW3] at hgx hk2 hkd
      have hW3' : (W2.setCell ⟨w.heap.size + 1 + 1, 0, none⟩ (.string ⟨#[]⟩)).setCell ⟨w.heap.size + 1 + 1 + 1, 0, none⟩ (.bool false) = W3 := hW3.symm
      rw [hW3']
      have hk1 : (W3.putObj D2 (.deferred none)).heap[Dx]? = some (.deferred (some [])) := put_other hkd HDD.out
      refine ⟨by simp, .inl ⟨_, _, rfl, run_takeDeferred hk2, by simp, .inl ⟨_, _, rfl, run_takeDeferred hk1, ?_⟩⟩⟩
      have hf1 := hgx.far (grownBy_putObj' W3 D2 (.deferred none)) (fun r e => by cases e; exact HD2W.out) (fun r e => by cases e; exact ⟨_, hk2, rfl⟩)
      have hfin := hf1.far (grownBy_putObj' _ Dx (.deferred none)) (fun r e => by cases e; exact HDW.out) (fun r e => by cases e; exact ⟨_, hk1, rfl⟩)
      have z4 : ((W3.putObj D2 (.deferred none)).putObj Dx (.deferred none)).cell? ⟨w.heap.size + 1 + 1, 0, none⟩ = some (.string ⟨#[]⟩) := obj_cell hfin.o4 (i := 0) rfl
      have z5 : ((W3.putObj D2 (.deferred none)).putObj Dx (.deferred none)).cell? ⟨w.heap.size + 1 + 1 + 1, 0, none⟩ = some (.bool false) := obj_cell hfin.o5 (i := 0) rfl
      refine ⟨.tuple #[.string ⟨#[]⟩, .bool false], ?_, ?_⟩
      · simp [results, Tryz.f21, go_sem, z4, z5]
      · rw [HE2.out]
        exact ⟨rfl, hfin.gr⟩
end Go.Proofs.YtlnhbndghnkfmaaGreatDoor
