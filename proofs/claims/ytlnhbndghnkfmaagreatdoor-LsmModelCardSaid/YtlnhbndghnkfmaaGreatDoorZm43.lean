/- Walks: the batch of a log's record: changesOf, the program's. -/
import Derived.Test.YtlnhbndghnkfmaaGreatDoorZm42
import Derived.Test.YtlnhbndghnkfmaaGreatDoorZm39
namespace Go.Proofs.YtlnhbndghnkfmaaGreatDoor
open Go.RowKit Go.Shelf
attribute [local go_sem] Oper.semAt_some

def dB : ByteArray := ⟨#[100]⟩
theorem dB_list : dB.toList = [100] := by rw [ByteArray.toList_eq]; rfl
theorem pB_list' : pB.toList = [112] := by rw [ByteArray.toList_eq]; rfl
def kindB (s : ByteArray) : Bool := eqS s pB || eqS s dB
def tripC (L : List ByteArray) (i : Nat) : CR := ⟨atS L (3 * i + 1), atS L (3 * i + 2), eqS (atS L (3 * i)) dB⟩
/-- The batch that fields tell of. -/
def changesF (L : List ByteArray) : Option (List CR) :=
  if L.length % 3 ≠ 0 then none
  else if (List.range (L.length / 3)).all (fun i => kindB (atS L (3 * i))) = true then
    (if batchE ((List.range (L.length / 3)).map (tripC L)) = 0 then some ((List.range (L.length / 3)).map (tripC L)) else none)
  else none
/-- .. that a record's bytes tell of. -/
def changesR (l : List UInt8) : Option (List CR) := match unpackL l with
  | none => none
  | some fs => changesF (fs.map bs)
def RetChg (o : Option (List CR)) (w : World) (e : Ending) (w' : World) : Prop := ∃ v, e = .returned (.tuple #[v, .bool o.isSome]) ∧ CO w' w.heap.size v (o.getD []) ∧ Gr w w'
/-- What the loop has in memory. -/
structure ChI (w : World) (b6 B0 B1 : Nat) (sv svf : Value) (L : List ByteArray) (vl : Value) (l : List CR) (W : World) : Prop where
  o2 : W.heap[w.heap.size]? = some (.cells #[.slice none 0 0] 27 (0, 0))
  o3 : W.heap[w.heap.size + 1]? = some (.cells #[.bool false] 4 (0, 0))
  o6 : W.heap[b6]? = some (.cells #[vl] 27 (0, 0))
  k0 : W.heap[B0]? = some (.cells #[svf] 28 (0, 0))
  k1 : W.heap[B1]? = some (.cells #[.int .i64 3] 3 (0, 0))
  row : SO W w.heap.size sv L
  own : CO W w.heap.size vl l
  gr : Gr w W
theorem ChI.far {w : World} {b6 B0 B1 : Nat} {sv svf : Value} {L : List ByteArray} {vl : Value} {l : List CR} {W W' : World} {row : Option Nat} (h : ChI w b6 B0 B1 sv svf L vl l W) (hg : W.grownBy W' row) (hB : ∀ r, row = some r → w.heap.size ≤ r)
    (hr : ∀ r, row = some r → ∃ o : Obj, W.heap[r]? = some o ∧ o.isCells = false) : ChI w b6 B0 B1 sv svf L vl l W' :=
  ⟨cells_far h.o2 hg hr, cells_far h.o3 hg hr, cells_far h.o6 hg hr, cells_far h.k0 hg hr, cells_far h.k1 hg hr, row_far h.row hg hr, row_far h.own hg hr, gr_far h.gr hg hB⟩
theorem ChI.gr' {w : World} {b6 B0 B1 : Nat} {sv svf : Value} {L : List ByteArray} {vl : Value} {l : List CR} {W W' : World} (h : ChI w b6 B0 B1 sv svf L vl l W) (g : Gr W W') : ChI w b6 B0 B1 sv svf L vl l W' :=
  ⟨gr_obj g h.o2, gr_obj g h.o3, gr_obj g h.o6, gr_obj g h.k0, gr_obj g h.k1, h.row.gr g, h.own.gr g, h.gr.trans g⟩
theorem ChI.push {w : World} {b6 B0 B1 : Nat} {sv svf : Value} {L : List ByteArray} {vl v' : Value} {l l' : List CR} {W w7 : World} (h : ChI w b6 B0 B1 sv svf L vl l W) (hne : w.heap.size ≠ b6 ∧ w.heap.size + 1 ≠ b6 ∧ B0 ≠ b6 ∧ B1 ≠ b6 ∧ w.heap.size ≤ b6)
    (hown : CO w7 w.heap.size v' l') (hk : Kp vl.ownBlock W w7) : ChI w b6 B0 B1 sv svf L v' l' (w7.setCell ⟨b6, 0, none⟩ v') := by
  have p2 := kp_obj hk h.o2 (own_ne_obj h.own h.o2 (by decide))
  have p3 := kp_obj hk h.o3 (own_ne_obj h.own h.o3 (by decide))
  have p6 := kp_obj hk h.o6 (own_ne_obj h.own h.o6 (by decide))
  have q0 := kp_obj hk h.k0 (own_ne_obj h.own h.k0 (by decide))
  have q1 := kp_obj hk h.k1 (own_ne_obj h.own h.k1 (by decide))
  have qr := own_past h.row h.own (by decide) hk
  have hg : Gr w w7 := gr_of_grown h.gr h.own hk h.gr.size
  exact ⟨set_obj_other p2 hne.1 _, set_obj_other p3 hne.2.1 _, set_obj p6 _, set_obj_other q0 hne.2.2.1 _, set_obj_other q1 hne.2.2.2.1 _, own_set_obj qr p6 (by decide) _, own_set_obj hown p6 (by decide) _, hg.setCell (p := ⟨b6, 0, none⟩) hne.2.2.2.2 _⟩
/-- The results' cells, written, and the loop's record laid down. -/
theorem ChI.fin {w : World} {b6 B0 B1 : Nat} {sv svf : Value} {L : List ByteArray} {vl : Value} {l : List CR} {W : World} {D : Nat} {ob : Obj} (h : ChI w b6 B0 B1 sv svf L vl l W) (x y : Value) (hK : W.heap[D]? = some ob) (hob : ob.isCells = false := by rfl) :
    ((W.setCell ⟨w.heap.size, 0, none⟩ x).setCell ⟨w.heap.size + 1, 0, none⟩ y).heap[D]? = some ob ∧ (w.heap.size ≤ D → ∀ o', (((W.setCell ⟨w.heap.size, 0, none⟩ x).setCell ⟨w.heap.size + 1, 0, none⟩ y).putObj D o').heap[w.heap.size]? = some (.cells #[x] 27 (0, 0)) ∧ (((W.setCell ⟨w.heap.size, 0, none⟩ x).setCell ⟨w.heap.size + 1, 0, none⟩ y).putObj D o').heap[w.heap.size + 1]? = some (.cells #[y] 4 (0, 0)) ∧
      CO (((W.setCell ⟨w.heap.size, 0, none⟩ x).setCell ⟨w.heap.size + 1, 0, none⟩ y).putObj D o') w.heap.size vl l ∧ Gr w (((W.setCell ⟨w.heap.size, 0, none⟩ x).setCell ⟨w.heap.size + 1, 0, none⟩ y).putObj D o')) := by
  have n2 : D ≠ w.heap.size := fun e => by
    rw [e, h.o2] at hK
    cases hK
    cases hob
  have n3 : D ≠ w.heap.size + 1 := fun e => by
    rw [e, h.o3] at hK
    cases hK
    cases hob
  have hK7 := set_obj_other (set_obj_other hK n2 x (i := 0)) n3 y (i := 0)
  have e2 : ((W.setCell ⟨w.heap.size, 0, none⟩ x).setCell ⟨w.heap.size + 1, 0, none⟩ y).heap[w.heap.size]? = some (.cells #[x] 27 (0, 0)) := set_obj_other (set_obj h.o2 x) (Nat.ne_of_lt (Nat.lt_succ_self _)) y
  have e3 : ((W.setCell ⟨w.heap.size, 0, none⟩ x).setCell ⟨w.heap.size + 1, 0, none⟩ y).heap[w.heap.size + 1]? = some (.cells #[y] 4 (0, 0)) := set_obj (set_obj_other h.o3 (Nat.ne_of_gt (Nat.lt_succ_self _)) x) y
  have ow : CO ((W.setCell ⟨w.heap.size, 0, none⟩ x).setCell ⟨w.heap.size + 1, 0, none⟩ y) w.heap.size vl l := own_set_obj (own_set_obj h.own h.o2 (by decide) x) (set_obj_other h.o3 (Nat.ne_of_gt (Nat.lt_succ_self _)) x) (by decide) y
  have gr : Gr w ((W.setCell ⟨w.heap.size, 0, none⟩ x).setCell ⟨w.heap.size + 1, 0, none⟩ y) := (h.gr.setCell (p := ⟨w.heap.size, 0, none⟩) (Nat.le_refl _) _).setCell (p := ⟨w.heap.size + 1, 0, none⟩) (Nat.le_succ _) _
  refine ⟨hK7, fun hD o' => ?_⟩
  have hgF : ((W.setCell ⟨w.heap.size, 0, none⟩ x).setCell ⟨w.heap.size + 1, 0, none⟩ y).grownBy (((W.setCell ⟨w.heap.size, 0, none⟩ x).setCell ⟨w.heap.size + 1, 0, none⟩ y).putObj D o') (some D) := grownBy_putObj' _ _ _
  have hr : ∀ r, some D = some r → ∃ o : Obj, ((W.setCell ⟨w.heap.size, 0, none⟩ x).setCell ⟨w.heap.size + 1, 0, none⟩ y).heap[r]? = some o ∧ o.isCells = false := fun r e => by cases e; exact ⟨_, hK7, hob⟩
  exact ⟨cells_far e2 hgF hr, cells_far e3 hgF hr, row_far ow hgF hr, gr_far gr hgF (fun r e => by cases e; exact hD)⟩
section
variable {ops : Array Oper} {o : Oper} {a : Act} {W : World} {K : Act → World → Prop} {Q : Exit → Act → World → Prop} {E : Prop}
theorem step_push_ck (hgd : o.guard = none) (s x : Operand)
    (ho : o.op = .call { callee := .builtin .append, args := #[s, x], argTypes := #[27, 27] })
    (B : Nat) (v vx : Value) (L M : List CR) (n m : Nat) (hn : n = L.length) (hm : m = M.length) (hs : a.eval s = v) (hown : CO W B v L) (hx : a.eval x = vx) (hxv : CV W vx M) (hlen : (n + m) * 40 ≤ 140737488355328) (hB : B ≤ W.heap.size)
    (h : ∀ A' c' w', CO w' B (.slice A' (n + m) c') (L ++ M) → Kp v.ownBlock W w' → K (a.put o.dst (.slice A' (n + m) c')) w') :
    if Region.wanted o (yielded ops a.tmps) = true then Oper.wp Tryz.prog o a W K Q else E := by
  subst hn hm
  obtain ⟨i0, hi, hz0, hz1, hz2⟩ := info_parts infoChange
  refine step_append_sl W hgd s x 27 ho B 70 i0 _ 3 40 Tryz.underlying27 hi hz0 hz1 hz2 rfl (by decide) v L.length (ccells L) hs hown vx M.length (ccells M) hx
    hxv.sl (ccells_one M) (by unfold maxLen; omega) hlen hB (L.length + M.length) rfl ?_
  intro A' c' w' hown' hgr _
  refine h A' c' w' ?_ hgr
  unfold CO
  rw [List.length_append]
  unfold ccells at hown' ⊢
  rw [List.flatMap_append]
  exact hown'
end
theorem co_one (W : World) (o : CR) (B : Nat) (hB : B ≤ W.heap.size) : CO (W.alloc (.cells #[.string o.key, .string o.val, .bool o.gone] 70)) B (.slice (some ⟨W.heap.size, 0, none⟩) 1 1) [o] :=
  ⟨rfl, .inr ⟨W.heap.size, 1, #[.string o.key, .string o.val, .bool o.gone], rfl, hB, heap_alloc_new W _, Nat.le_refl _, by decide, rfl, rfl⟩⟩
theorem int_bne_t' {a b : Int} (h : a ≠ b) : (a != b) = true := by simpa using h
theorem int_bne_f' {a b : Int} (h : a = b) : (a != b) = false := by simpa using h
theorem changesF_rem {L : List ByteArray} (h : L.length % 3 ≠ 0) : changesF L = none := by unfold changesF; rw [if_pos h]
theorem changesF_bad {L : List ByteArray} {N : Nat} (hN : L.length = 3 * N) (x : Fin N) (h : kindB (atS L (3 * x.1)) = false) : changesF L = none := by
  unfold changesF
  rw [if_neg (by omega), if_neg]
  intro e
  have := List.all_eq_true.1 e x.1 (List.mem_range.2 (by have := x.2; omega))
  rw [h] at this
  cases this
theorem trips_fin (L : List ByteArray) (N : Nat) : ((List.finRange N).map fun x => tripC L x.1) = (List.range N).map (tripC L) := by
  apply List.ext_getElem
  · simp
  · intro i h1 h2
    simp
theorem changesF_all {L : List ByteArray} {N : Nat} (hN : L.length = 3 * N) (h : ∀ x : Fin N, kindB (atS L (3 * x.1)) = true) : changesF L = if batchE ((List.finRange N).map fun x => tripC L x.1) = 0 then some ((List.finRange N).map fun x => tripC L x.1) else none := by
  unfold changesF
  rw [if_neg (by omega), show L.length / 3 = N by omega, if_pos, trips_fin]
  rw [List.all_eq_true]
  intro i hi
  exact h ⟨i, List.mem_range.1 hi⟩
set_option linter.unusedSimpArgs false in
set_option maxRecDepth 100000 in
set_option maxHeartbeats 4000000 in
theorem changesOf_any (s : ByteArray) (hs : s.size ≤ maxLen) (w : World) :
    Calls Tryz.prog 75 #[.string s] w fun e w' => RetChg (changesR s.data.toList) w e w' := by
  have HU := Lib.hid (fun w => unpack_any s hs w)
  obtain ⟨W, hW, hg, ho2, ho3⟩ : ∃ W, W = (w.alloc (.cells #[.slice none 0 0] 27)).alloc (.cells #[.bool false] 4) ∧ Gr w W ∧ W.heap[w.heap.size]? = some (.cells #[.slice none 0 0] 27 (0, 0)) ∧ W.heap[w.heap.size + 1]? = some (.cells #[.bool false] 4 (0, 0)) := by
    refine ⟨_, rfl, ((Gr.refl w).alloc _).alloc _, ?_, ?_⟩ <;> (simp only [World.alloc, Array.getElem?_push, Array.size_push]; simp)
  have HG := Lib.hid hg
  have HO2 := Lib.hid ho2
  have HO3 := Lib.hid ho3
  clear hs hg ho2 ho3
  rcases hu : unpackL s.data.toList with _ | fs
  · have HF := Lib.hid (show changesR s.data.toList = none by unfold changesR; rw [hu])
    rw [hu] at HU
    clear hu
    refine (callsIn_wide (n := 8)).1 ?_
    refine callsIn_of_wp_marks Tryz.func75 rfl trivial ?_ rfl
    simp only [Tryz.ntmps75, List.size_toArray, List.length_cons, List.length_nil, Nat.reduceAdd, Nat.reduceSub, Array.replicate_succ, Array.replicate_zero, List.push_toArray, List.append_toArray, List.nil_append, List.cons_append]
    gi_wp2_with fail
    rw [← hW]
    clear hW
    refine ⟨trivial, ?_⟩
    refine (callsIn_wide.2 (HU.out _)).mono ?_
    rintro e w1 ⟨rfl, g1⟩
    have HG1 := Lib.hid (HG.out.trans g1)
    have hb2 := gr_obj g1 HO2.out
    have hb3 := gr_obj g1 HO3.out
    have z0 : w1.cell? ⟨w.heap.size, 0, none⟩ = some (.slice none 0 0) := obj_cell hb2 (i := 0) rfl
    have y0 : w1.cell? ⟨w.heap.size + 1, 0, none⟩ = some (.bool false) := obj_cell hb3 (i := 0) rfl
    have f0 := obj_free (i := 0) hb2
    have g0 := obj_free (i := 0) hb3
    clear hb2 hb3 g1
    gi_wp2_with fail
    refine ⟨.tuple #[.slice none 0 0, .bool false], ?_, ?_⟩
    · simp [results, Tryz.f75, go_sem, *]
    · rw [HF.out]
      exact ⟨_, rfl, CO.nil _ _, ((HG1.out).setCell (by simp) _).setCell (by simp) _⟩
  have hpk := (unpack_back hu).1
  obtain ⟨L, hL⟩ : ∃ L, L = fs.map bs := ⟨_, rfl⟩
  rw [← hL] at hpk
  have hD : changesR s.data.toList = changesF L := by unfold changesR; rw [hu, hL]
  rw [hu] at HU
  unfold RetUnpack at HU
  simp only [← hL] at HU
  clear hu hL
  obtain ⟨n, hn⟩ : ∃ n, n = L.length := ⟨_, rfl⟩
  have HD := Lib.hid hD
  have HN := Lib.hid hn
  have hn6 : n ≤ 4096 := by rw [hn]; exact hpk.1
  have HZ := Lib.hid hpk.2.1
  clear hpk hD
  by_cases h3 : n % 3 = 0
  case neg =>
    have HF := Lib.hid (show changesR s.data.toList = none by rw [HD.out]; exact changesF_rem (by rw [← hn]; exact h3))
    have t3 : (((n : Int) % 3) != 0) = true := int_bne_t' (by omega)
    have t3' : ((n : Int).tmod 3 != 0) = true := by rw [Int.tmod_eq_emod_of_nonneg (by omega)]; exact t3
    have t3'' : ¬ ((n : Int).tmod 3 = 0) := by simpa using t3'
    clear hn h3
    refine (callsIn_wide (n := 8)).1 ?_
    refine callsIn_of_wp_marks Tryz.func75 rfl trivial ?_ rfl
    simp only [Tryz.ntmps75, List.size_toArray, List.length_cons, List.length_nil, Nat.reduceAdd, Nat.reduceSub, Array.replicate_succ, Array.replicate_zero, List.push_toArray, List.append_toArray, List.nil_append, List.cons_append]
    gi_wp2_with fail
    rw [← hW]
    clear hW
    refine ⟨trivial, ?_⟩
    refine (callsIn_wide.2 (HU.out _)).mono ?_
    rintro e w1 ⟨v1, rfl, hown, g1⟩
    obtain ⟨A1, c1, rfl, -, -⟩ := own_form hown
    rw [← HN.out]
    have HG1 := Lib.hid (HG.out.trans g1)
    have hb2 := gr_obj g1 HO2.out
    have hb3 := gr_obj g1 HO3.out
    have z0 : w1.cell? ⟨w.heap.size, 0, none⟩ = some (.slice none 0 0) := obj_cell hb2 (i := 0) rfl
    have y0 : w1.cell? ⟨w.heap.size + 1, 0, none⟩ = some (.bool false) := obj_cell hb3 (i := 0) rfl
    have f0 := obj_free (i := 0) hb2
    have g0 := obj_free (i := 0) hb3
    clear hb2 hb3 g1 hown
    gi_wp2_with fail
    refine ⟨.tuple #[.slice none 0 0, .bool false], ?_, ?_⟩
    · simp [results, Tryz.f75, go_sem, *]
    · rw [HF.out]
      exact ⟨_, rfl, CO.nil _ _, ((HG1.out).setCell (by simp) _).setCell (by simp) _⟩
  obtain ⟨N, hN⟩ : ∃ N, n = 3 * N := ⟨n / 3, by omega⟩
  have HLN : Hid (L.length = 3 * N) := Lib.hid (by rw [← hn, hN])
  have HNN := Lib.hid hN
  have t3 : (((n : Int) % 3) != 0) = false := int_bne_f' (by omega)
  have t3' : ((n : Int).tmod 3 != 0) = false := by rw [Int.tmod_eq_emod_of_nonneg (by omega)]; exact t3
  have t3'' : (n : Int).tmod 3 = 0 := by simpa using t3'
  have hN6 : N ≤ 4096 := by omega
  clear hn h3 hN
  refine (callsIn_wide (n := 8)).1 ?_
  refine callsIn_of_wp_marks Tryz.func75 rfl trivial ?_ rfl
  simp only [Tryz.ntmps75, List.size_toArray, List.length_cons, List.length_nil, Nat.reduceAdd, Nat.reduceSub, Array.replicate_succ, Array.replicate_zero, List.push_toArray, List.append_toArray, List.nil_append, List.cons_append]
  gi_wp2_with fail
  rw [← hW]
  clear hW
  refine ⟨trivial, ?_⟩
  refine (callsIn_wide.2 (HU.out _)).mono ?_
  rintro e w1 ⟨v1, rfl, hown, g1⟩
  have hown1 : SO w1 w.heap.size v1 L := own_le hown HG.out.size
  obtain ⟨A1, c1, rfl, hc1, hc2⟩ := own_form hown1
  obtain ⟨gb, hgb⟩ : ∃ g, 0 < N → A1 = some ⟨g, 0, none⟩ := by
    rcases hown1.2 with ⟨_, h0⟩ | ⟨g, cap, cur, he, _⟩
    · exact ⟨0, fun h => by have := HLN.out; omega⟩
    · injection he with he
      exact ⟨g, fun _ => he⟩
  have HLn : Hid (L.length = n) := Lib.hid HN.out.symm
  rw [HLn.out] at hc1 ⊢
  have HG1 := Lib.hid (HG.out.trans g1)
  have HB2 := Lib.hid (gr_obj g1 HO2.out)
  have HB3 := Lib.hid (gr_obj g1 HO3.out)
  have HOW := Lib.hid hown1
  have HGB := Lib.hid hgb
  obtain ⟨W3, hW3, hg3, ho6⟩ : ∃ W, W = w1.alloc (.cells #[.slice none 0 0] 27) ∧ Gr w1 W ∧ W.heap[w1.heap.size]? = some (.cells #[.slice none 0 0] 27 (0, 0)) := by
    refine ⟨_, rfl, (Gr.refl w1).alloc _, ?_⟩
    simp only [World.alloc, Array.getElem?_push]; simp
  have HG3 := Lib.hid (HG1.out.trans hg3)
  have HB2' := Lib.hid (gr_obj hg3 HB2.out)
  have HB3' := Lib.hid (gr_obj hg3 HB3.out)
  have HOW' := Lib.hid (HOW.out.gr hg3)
  have HO6 := Lib.hid ho6
  clear hown hown1 g1 hgb hg3 ho6
  gi_upto_region 5 with (fail)
  rw [← hW3]
  clear hW3 t3 t3' t3''
  gi_wp2_with fail
  refine ⟨trivial, ?_⟩
  refine (callsIn_wide.2 (chunk_any _ _ _ _)).mono ?_
  rintro e w4 ⟨rfl, hw4⟩
  have hg4 : Gr W3 w4 := by rw [hw4]; exact ((Gr.refl W3).alloc _).alloc _
  have hk0 : w4.heap[W3.heap.size]? = some (.cells #[.slice A1 n c1] 28 (0, 0)) := by
    rw [hw4]; simp only [World.alloc, Array.getElem?_push, Array.size_push]; simp
  have hk1 : w4.heap[W3.heap.size + 1]? = some (.cells #[.int .i64 3] 3 (0, 0)) := by
    rw [hw4]; simp only [World.alloc, Array.getElem?_push, Array.size_push]; simp
  obtain ⟨B0, hB0⟩ : ∃ x, x = W3.heap.size := ⟨_, rfl⟩
  obtain ⟨b6, hb6⟩ : ∃ x, x = w1.heap.size := ⟨_, rfl⟩
  have st0 : ChI w b6 B0 (B0 + 1) (.slice A1 n c1) (.slice A1 n c1) L (.slice none 0 0) [] w4 := by
    rw [hb6, hB0]
    exact ⟨gr_obj hg4 HB2'.out, gr_obj hg4 HB3'.out, gr_obj hg4 HO6.out, hk0, hk1, by have := HOW'.out.gr hg4; rw [HLn.out] at this; exact this, CO.nil _ _, HG3.out.trans hg4⟩
  have hne : (w.heap.size ≠ b6 ∧ w.heap.size + 1 ≠ b6 ∧ B0 ≠ b6 ∧ B0 + 1 ≠ b6 ∧ w.heap.size ≤ b6) := by
    have h1 := (Array.getElem?_eq_some_iff.1 HB2.out).1
    have h2 := (Array.getElem?_eq_some_iff.1 HB3.out).1
    have h3 := (Array.getElem?_eq_some_iff.1 HO6.out).1
    rw [hb6, hB0]
    omega
  have HNE := Lib.hid hne
  rw [← hB0] at hk0 hk1 ⊢
  rw [← hb6]
  have HST0 := Lib.hid st0
  have hlt0 : B0 < w4.heap.size := (Array.getElem?_eq_some_iff.1 hk0).1
  have hlt1 : B0 + 1 < w4.heap.size := (Array.getElem?_eq_some_iff.1 hk1).1
  have hc0 : w4.cell? ⟨B0, 0, none⟩ = some (.slice A1 (3 * N) c1) := by rw [← HNN.out]; exact obj_cell hk0 (i := 0) rfl
  have hc1' : w4.cell? ⟨B0 + 1, 0, none⟩ = some (.int .i64 3) := obj_cell hk1 (i := 0) rfl
  have hNc : 3 * N ≤ c1 := by rw [← HNN.out]; exact hc1
  have HWS := Lib.hid (show w.heap.size ≤ w4.heap.size from (HG3.out.trans hg4).size)
  have HLT := Lib.hid (And.intro hlt0 hlt1)
  have HCC := Lib.hid (And.intro hc0 hc1')
  clear hw4 hg4 hk0 hk1 st0 hB0 hb6 hne hlt0 hlt1 hc0 hc1'
  gi_wp2_with fail
  refine' wpIn_rangeFunc_ownF (F := Fence.wide) rfl (by decide) (gf := 152) (lb := #[.pointer (some ⟨B0, 0, none⟩), .pointer (some ⟨B0 + 1, 0, none⟩)]) rfl trivial (enters_of Tryz.func152 (by kernel_rfl) rfl)
    (chunk_stops 7 (by decide) B0 (B0 + 1) gb 0 A1 c1 N HGB.out hNc hc2 w4 HLT.out.1 HLT.out.2 HCC.out.1 HCC.out.2) (fun h k => h.trans k) (fun W l o o' hl _ _ _ => ⟨World.putObj_heap_other (by have := HLT.out; omega), World.putObj_heap_other (by have := HLT.out; omega)⟩) (Below.refl _ _) (fun _ => rfl)
    (fun pre W => (∀ x ∈ pre, kindB (atS L (3 * x.1)) = true) ∧ ∃ vl, ChI w b6 B0 (B0 + 1) (.slice A1 n c1) (.slice A1 n c1) L vl (pre.map fun x => tripC L x.1) W)
    (fun c pre W => c = .ret ∧ (∃ x ∈ pre, kindB (atS L (3 * x.1)) = false) ∧ W.heap[w.heap.size]? = some (.cells #[.slice none 0 0] 27 (0, 0)) ∧ W.heap[w.heap.size + 1]? = some (.cells #[.bool false] 4 (0, 0)) ∧ Gr w W)
    (fun pre A B row hs hg hr => ⟨hs.1, hs.2.imp fun vs h => h.far hg (fun r e => Nat.le_trans HWS.out (hr r e).1) (fun r e => (hr r e).2)⟩)
    (fun c pre A B row hs hg hr => ⟨hs.1, hs.2.1, cells_far hs.2.2.1 hg (fun r e => (hr r e).2), cells_far hs.2.2.2.1 hg (fun r e => (hr r e).2), gr_far hs.2.2.2.2 hg (fun r e => Nat.le_trans HWS.out (hr r e).1)⟩)
    ⟨fun x hx => by (cases hx), _, HST0.out⟩ _ ?assign ?body ?done ?stop
  case assign =>
    intro l x W K hK
    gi_wp2_with fail
    exact hK
  case body =>
    rintro l pre x W ⟨hs, vl, st⟩ hlt
    have hrow := st.row
    have hx2 := x.2
    have hN0 : 0 < N := by omega
    have hA1 := HGB.out hN0
    subst hA1
    obtain ⟨cur, hcur, hget⟩ : ∃ cur, W.heap[gb]? = some (.cells cur 9 (0, 0)) ∧ ∀ j, j < n → cur[j]? = some (.string (atS L j)) := by
      rcases hrow.2 with ⟨he, _⟩ | ⟨g', cap, cur, he, _, hg, hn', _, hcs, ht⟩
      · cases he
      · injection he with e1 e2 e3
        injection e1 with e1
        injection e1 with e1
        subst e1
        refine ⟨cur, hg, fun j hj => ?_⟩
        have hjL : j < L.length := by rw [HLn.out]; exact hj
        have h : (cur.toList.take (L.length * 1))[j]? = (L.map Value.string)[j]? := by rw [ht]
        rw [List.getElem?_take, if_pos (by omega), List.getElem?_map, List.getElem?_eq_getElem hjL, Array.getElem?_toList] at h
        rw [h, atS_get hjL]
        rfl
    have h3n := HNN.out
    obtain ⟨a, ha⟩ : ∃ a, a = atS L (3 * x.1) := ⟨_, rfl⟩
    obtain ⟨b, hb⟩ : ∃ a, a = atS L (3 * x.1 + 1) := ⟨_, rfl⟩
    obtain ⟨c, hc⟩ : ∃ a, a = atS L (3 * x.1 + 2) := ⟨_, rfl⟩
    have ga : cur[3 * x.1]? = some (.string a) := by rw [hget _ (by omega), ← ha]
    have gb' : cur[3 * x.1 + 1]? = some (.string b) := by rw [hget _ (by omega), ← hb]
    have gc : cur[3 * x.1 + 2]? = some (.string c) := by rw [hget _ (by omega), ← hc]
    have HCU := Lib.hid hcur
    have HGA := Lib.hid (And.intro ga (And.intro gb' gc))
    have HA := Lib.hid ha
    have HBC := Lib.hid (And.intro hb hc)
    have HST := Lib.hid st
    have HSM := Lib.hid hs
    have HPL : Hid ((pre.length + 1) * 40 ≤ 140737488355328) := Lib.hid (by omega)
    have c0 := obj_cell hcur ga
    obtain ⟨q1, hq1⟩ : ∃ q, q = eqS a pB := ⟨_, rfl⟩
    obtain ⟨q2, hq2⟩ : ∃ q, q = eqS a dB := ⟨_, rfl⟩
    have t1 : (a.toList == [112]) = q1 := by rw [hq1]; unfold eqS; rw [pB_list']
    have t2 : (a.toList == [100]) = q2 := by rw [hq2]; unfold eqS; rw [dB_list]
    have HQ : Hid (kindB (atS L (3 * x.1)) = (q1 || q2)) := Lib.hid (by rw [← HA.out, hq1, hq2]; rfl)
    have HQ2 : Hid (tripC L x.1 = ⟨b, c, q2⟩) := Lib.hid (by unfold tripC; rw [← HA.out, ← HBC.out.1, ← HBC.out.2, hq2])
    clear hrow hx2 hcur hget ha hb hc ga gb' gc st hs hlt hN0 h3n hq1 hq2
    unfold threeAt
    by_cases hk : (q1 || q2) = true
    · have HKK := Lib.hid (HQ.out.trans hk)
      obtain ⟨Al, cl, rfl, -, -⟩ := own_form HST.out.own
      obtain ⟨nl, hnl⟩ : ∃ m, m = (pre.map fun x => tripC L x.1).length := ⟨_, rfl⟩
      rw [← hnl] at HST
      have HNL := Lib.hid hnl
      have HDL : Hid ((nl + 1) * 40 ≤ 140737488355328) := Lib.hid (by rw [hnl, List.length_map]; exact HPL.out)
      clear hnl
      have hcase : q1 = true ∨ (q1 = false ∧ q2 = true) := by
        cases q1
        · exact .inr ⟨rfl, by simpa using hk⟩
        · exact .inl rfl
      obtain ⟨SP, hSP⟩ : ∃ SP : World → Prop, SP = (fun w' => w'.heap[gb]? = some (.cells cur 9 (0, 0))) := ⟨_, rfl⟩
      have hs0 : SP W.drew := by
        rw [hSP]
        exact gr_obj (Gr.refl _).drew HCU.out
      have HSK : Hid (∀ (a b : World) (v : Value) (l : List CR), SP a → CO a w.heap.size v l → Kp v.ownBlock a b → SP b) := Lib.hid (fun a b v l h ho k => by
        rw [hSP] at h ⊢
        exact kp_obj k h (own_ne_obj ho h (by decide)))
      have HNB : Hid (∀ b : World, SP b → ∀ u, b.heap[b6]? = some (.cells #[.slice Al nl cl] 27 (0, 0)) → SP (b.setCell ⟨b6, 0, none⟩ u)) := Lib.hid (fun b h u hb => by
        rw [hSP] at h ⊢
        exact set_obj_other h (fun e => by rw [e, hb] at h; cases h) _)
      have HSPC : Hid (∀ b0 : World, SP b0 → b0.cell? ⟨gb, 3 * x.1, none⟩ = some (.string a) ∧ b0.cell? ⟨gb, 3 * x.1 + 1, none⟩ = some (.string b) ∧ b0.cell? ⟨gb, 3 * x.1 + 2, none⟩ = some (.string c)) := Lib.hid (fun b0 h => by
        rw [hSP] at h
        exact ⟨obj_cell h HGA.out.1, obj_cell h HGA.out.2.1, obj_cell h HGA.out.2.2⟩)
      have HS0 := Lib.hid hs0
      have HST7 : Hid (ChI w b6 B0 (B0 + 1) (.slice (some ⟨gb, 0, none⟩) n c1) (.slice (some ⟨gb, 0, none⟩) n c1) L (.slice Al nl cl) (pre.map fun x => tripC L x.1) (W.drew.alloc (.cells #[.string b, .string c, .bool q2] 70))) := Lib.hid (HST.out.gr' ((Gr.refl _).drew.alloc _))
      have HS7 : Hid (SP (W.drew.alloc (.cells #[.string b, .string c, .bool q2] 70))) := Lib.hid (by
        rw [hSP]
        exact gr_obj ((Gr.refl _).drew.alloc _) HCU.out)
      have HC6 : Hid (W.drew.cell? ⟨b6, 0, none⟩ = some (.slice Al nl cl)) := Lib.hid (obj_cell (gr_obj (Gr.refl _).drew HST.out.o6) (i := 0) rfl)
      have HC7 : Hid ((W.drew.alloc (.cells #[.string b, .string c, .bool q2] 70)).cell? ⟨b6, 0, none⟩ = some (.slice Al nl cl)) := Lib.hid (obj_cell HST7.out.o6 (i := 0) rfl)
      have HWZ : Hid (w.heap.size ≤ (W.drew.alloc (.cells #[.string b, .string c, .bool q2] 70)).heap.size) := Lib.hid HST7.out.gr.size
      have HOB := Lib.hid (fun w7 (hk7 : Kp (Value.slice Al nl cl).ownBlock (W.drew.alloc (.cells #[.string b, .string c, .bool q2] 70)) w7) => kp_obj hk7 HST7.out.o6 (own_ne_obj HST7.out.own HST7.out.o6 (by decide)))
      have HCV := Lib.hid (co_one W.drew ⟨b, c, q2⟩ 0 (Nat.zero_le _)).cv
      have HGD : Hid (Gr W W.drew) := Lib.hid (Gr.refl _).drew
      clear hSP hs0 hk
      rcases hcase with rfl | ⟨rfl, rfl⟩
      · gi_upto_region 9 with (fail)
        refine heldRound (S := SP) (by kernel_rfl) (by kernel_rfl) (fun h => by obtain ⟨_, _, h⟩ := h; exact h) HS0.out (fun hHeld => ?_)
        generalize W.drew = W5 at *
        refine hTake (i := 1) rfl (by kernel_rfl) (by kernel_rfl) (by kernel_rfl) (by kernel_rfl) (by assumption) ?_
        apply Exists.intro
        refine ⟨fun _ _ _ h => h, fun wq hq => ?_, ?_⟩
        · go_light
          obtain ⟨c0, c1, c2⟩ := HSPC.out wq hq
          go_simp
          try with_reducible rfl
          done
        try simp only [Act.put, List.setIfInBounds_toArray, List.set_cons_zero, List.set_cons_succ]
        refine hTake (i := 2) rfl (by kernel_rfl) (by kernel_rfl) (by kernel_rfl) (by kernel_rfl) (by assumption) ?_
        apply Exists.intro
        refine ⟨fun _ _ _ h => h, fun wq hq => ?_, ?_⟩
        · go_light
          obtain ⟨c0, c1, c2⟩ := HSPC.out wq hq
          go_simp
          try with_reducible rfl
          done
        try simp only [Act.put, List.setIfInBounds_toArray, List.set_cons_zero, List.set_cons_succ]
        refine hTake (i := 3) rfl (by kernel_rfl) (by kernel_rfl) (by kernel_rfl) (by kernel_rfl) (by assumption) ?_
        apply Exists.intro
        refine ⟨fun _ _ _ h => h, fun wq hq => ?_, ?_⟩
        · go_light
          obtain ⟨c0, c1, c2⟩ := HSPC.out wq hq
          go_simp
          try with_reducible rfl
          done
        try simp only [Act.put, List.setIfInBounds_toArray, List.set_cons_zero, List.set_cons_succ]
        refine hTake (i := 4) rfl (by kernel_rfl) (by kernel_rfl) (by kernel_rfl) (by kernel_rfl) (by assumption) ?_
        apply Exists.intro
        refine ⟨fun _ _ _ h => h, fun wq hq => ?_, ?_⟩
        · go_light
          obtain ⟨c0, c1, c2⟩ := HSPC.out wq hq
          go_simp
          try with_reducible rfl
          done
        try simp only [Act.put, List.setIfInBounds_toArray, List.set_cons_zero, List.set_cons_succ]
        refine hTake (i := 5) rfl (by kernel_rfl) (by kernel_rfl) (by kernel_rfl) (by kernel_rfl) (by assumption) ?_
        apply Exists.intro
        refine ⟨fun _ _ _ h => h, fun wq hq => ?_, ?_⟩
        · go_light
          obtain ⟨c0, c1, c2⟩ := HSPC.out wq hq
          go_simp
          try with_reducible rfl
          done
        try simp only [Act.put, List.setIfInBounds_toArray, List.set_cons_zero, List.set_cons_succ]
        refine hTake (i := 6) rfl (by kernel_rfl) (by kernel_rfl) (by kernel_rfl) (by kernel_rfl) (by assumption) ?_
        apply Exists.intro
        refine ⟨fun _ _ _ h => h, fun wq hq => ?_, ?_⟩
        · go_light
          obtain ⟨c0, c1, c2⟩ := HSPC.out wq hq
          go_simp
          try with_reducible rfl
          done
        try simp only [Act.put, List.setIfInBounds_toArray, List.set_cons_zero, List.set_cons_succ]
        refine hTake (i := 7) rfl (by kernel_rfl) (by kernel_rfl) (by kernel_rfl) (by kernel_rfl) (by assumption) ?_
        apply Exists.intro
        refine ⟨fun _ _ _ h => h, fun wq hq => ?_, ?_⟩
        · go_light
          obtain ⟨c0, c1, c2⟩ := HSPC.out wq hq
          go_simp
          try with_reducible rfl
          done
        try simp only [Act.put, List.setIfInBounds_toArray, List.set_cons_zero, List.set_cons_succ]
        refine hTake (i := 8) rfl (by kernel_rfl) (by kernel_rfl) (by kernel_rfl) (by kernel_rfl) (by assumption) ?_
        apply Exists.intro
        refine ⟨fun _ _ _ h => h, fun wq hq => ?_, ?_⟩
        · go_light
          obtain ⟨c0, c1, c2⟩ := HSPC.out wq hq
          go_simp
          try with_reducible rfl
          done
        try simp only [Act.put, List.setIfInBounds_toArray, List.set_cons_zero, List.set_cons_succ]
        refine hTake (i := 9) rfl (by kernel_rfl) (by kernel_rfl) (by kernel_rfl) (by kernel_rfl) (by assumption) ?_
        apply Exists.intro
        refine ⟨fun _ _ _ h => h, fun wq hq => ?_, ?_⟩
        · go_light
          obtain ⟨c0, c1, c2⟩ := HSPC.out wq hq
          go_simp
          try with_reducible rfl
          done
        try simp only [Act.put, List.setIfInBounds_toArray, List.set_cons_zero, List.set_cons_succ]
        refine hTake (i := 10) rfl (by kernel_rfl) (by kernel_rfl) (by kernel_rfl) (by kernel_rfl) (by assumption) ?_
        apply Exists.intro
        refine ⟨fun _ _ _ h => h, fun wq hq => ?_, ?_⟩
        · go_light
          obtain ⟨c0, c1, c2⟩ := HSPC.out wq hq
          go_simp
          try with_reducible rfl
          done
        try simp only [Act.put, List.setIfInBounds_toArray, List.set_cons_zero, List.set_cons_succ]
        refine hTake (i := 11) rfl (by kernel_rfl) (by kernel_rfl) (by kernel_rfl) (by kernel_rfl) (by assumption) ?_
        apply Exists.intro
        refine ⟨fun _ _ _ h => h, fun wq hq => ?_, ?_⟩
        · go_light
          obtain ⟨c0, c1, c2⟩ := HSPC.out wq hq
          go_simp
          try with_reducible rfl
          done
        try simp only [Act.put, List.setIfInBounds_toArray, List.set_cons_zero, List.set_cons_succ]
        refine wpAnyH_ready (rs := [0, 12]) (by kernel_rfl) (by simp) ?_
        refine AllReadyH.cons rfl (fun K hK => ?_) (AllReadyH.cons rfl (fun K hK => ?_) AllReadyH.nil)
        case' refine_1 =>
          have c6 := HC6.out
          go_simp
          refine hK.out _ _ HS0.out (fun _ => ?_)
          clear hK K c6
          try simp only [Act.put, List.setIfInBounds_toArray, List.set_cons_zero, List.set_cons_succ]
          refine wpAnyH_ready (rs := [12]) (by kernel_rfl) (by simp) ?_
          refine AllReadyH.cons rfl (fun K hK => ?_) AllReadyH.nil
          go_simp
          refine hK.out _ _ HS7.out (fun _ => ?_)
          clear hK K
        case' refine_2 =>
          go_simp
          refine hK.out _ _ HS7.out (fun _ => ?_)
          clear hK K
          try simp only [Act.put, List.setIfInBounds_toArray, List.set_cons_zero, List.set_cons_succ]
          refine wpAnyH_ready (rs := [0]) (by kernel_rfl) (by simp) ?_
          refine AllReadyH.cons rfl (fun K hK => ?_) AllReadyH.nil
          have c6 := HC7.out
          go_simp
          refine hK.out _ _ HS7.out (fun _ => ?_)
          clear hK K c6
        all_goals
          try simp only [Act.put, List.setIfInBounds_toArray, List.set_cons_zero, List.set_cons_succ]
          refine wpAnyH_ready (rs := [13]) (by kernel_rfl) (by simp) ?_
          refine AllReadyH.cons rfl (fun K hK => ?_) AllReadyH.nil
          refine step_push_ck rfl (.tmp 34) (.tmp 46) rfl w.heap.size (.slice Al nl cl) (.slice (some ⟨W5.heap.size, 0, none⟩) 1 1) (pre.map fun x => tripC L x.1) [⟨b, c, q2⟩] nl 1 HNL.out rfl rfl HST7.out.own rfl HCV.out HDL.out HWZ.out ?_
          intro A7 k7 w7 hown7 hk7
          have HS8 := Lib.hid (HSK.out _ _ _ _ HS7.out HST7.out.own hk7)
          refine hK.out _ _ HS8.out (fun _ => ?_)
          clear hK K
          have HB7 := Lib.hid (HOB.out w7 hk7)
          have HOW7 := Lib.hid hown7
          have HK7 := Lib.hid hk7
          clear hown7 hk7
          try simp only [Act.put, List.setIfInBounds_toArray, List.set_cons_zero, List.set_cons_succ]
          refine wpAnyH_ready (rs := [14]) (by kernel_rfl) (by simp) ?_
          refine AllReadyH.cons rfl (fun K hK => ?_) AllReadyH.nil
          have q6 := obj_cell HB7.out (i := 0) rfl
          have z6 := obj_free (i := 0) HB7.out
          go_simp
          refine hK.out _ _ (HNB.out _ HS8.out _ HB7.out) (fun _ => ?_)
          clear hK K q6 z6
          try simp only [Act.put, List.setIfInBounds_toArray, List.set_cons_zero, List.set_cons_succ]
          refine wpAnyH_done (by kernel_rfl) ?_ _
          have hfin := HST7.out.push HNE.out HOW7.out HK7.out
          have HG7 := Lib.hid (HGD.out.alloc (.cells #[.string b, .string c, .bool q2] 70))
          have hk0 := HST.out.k0
          have hk1 := HST.out.k1
          refine ⟨((ko_gr HG7.out).trans (ko_own HST7.out.own HK7.out)).trans (KeepsOthers.setCell _ _ _), ⟨hfin.k0.trans hk0.symm, hfin.k1.trans hk1.symm⟩, fun y hy => ?_, _, by rw [List.map_append, List.map_singleton, HQ2.out]; exact hfin⟩
          rcases List.mem_append.1 hy with hy | hy
          · exact HSM.out y hy
          · rw [List.mem_singleton.1 hy]
            exact HKK.out
      · gi_upto_region 9 with (fail)
        refine heldRound (S := SP) (by kernel_rfl) (by kernel_rfl) (fun h => by obtain ⟨_, _, h⟩ := h; exact h) HS0.out (fun hHeld => ?_)
        generalize W.drew = W5 at *
        refine hTake (i := 1) rfl (by kernel_rfl) (by kernel_rfl) (by kernel_rfl) (by kernel_rfl) (by assumption) ?_
        apply Exists.intro
        refine ⟨fun _ _ _ h => h, fun wq hq => ?_, ?_⟩
        · go_light
          obtain ⟨c0, c1, c2⟩ := HSPC.out wq hq
          go_simp
          try with_reducible rfl
          done
        try simp only [Act.put, List.setIfInBounds_toArray, List.set_cons_zero, List.set_cons_succ]
        refine hTake (i := 2) rfl (by kernel_rfl) (by kernel_rfl) (by kernel_rfl) (by kernel_rfl) (by assumption) ?_
        apply Exists.intro
        refine ⟨fun _ _ _ h => h, fun wq hq => ?_, ?_⟩
        · go_light
          obtain ⟨c0, c1, c2⟩ := HSPC.out wq hq
          go_simp
          try with_reducible rfl
          done
        try simp only [Act.put, List.setIfInBounds_toArray, List.set_cons_zero, List.set_cons_succ]
        refine hTake (i := 3) rfl (by kernel_rfl) (by kernel_rfl) (by kernel_rfl) (by kernel_rfl) (by assumption) ?_
        apply Exists.intro
        refine ⟨fun _ _ _ h => h, fun wq hq => ?_, ?_⟩
        · go_light
          obtain ⟨c0, c1, c2⟩ := HSPC.out wq hq
          go_simp
          try with_reducible rfl
          done
        try simp only [Act.put, List.setIfInBounds_toArray, List.set_cons_zero, List.set_cons_succ]
        refine hTake (i := 4) rfl (by kernel_rfl) (by kernel_rfl) (by kernel_rfl) (by kernel_rfl) (by assumption) ?_
        apply Exists.intro
        refine ⟨fun _ _ _ h => h, fun wq hq => ?_, ?_⟩
        · go_light
          obtain ⟨c0, c1, c2⟩ := HSPC.out wq hq
          go_simp
          try with_reducible rfl
          done
        try simp only [Act.put, List.setIfInBounds_toArray, List.set_cons_zero, List.set_cons_succ]
        refine hTake (i := 5) rfl (by kernel_rfl) (by kernel_rfl) (by kernel_rfl) (by kernel_rfl) (by assumption) ?_
        apply Exists.intro
        refine ⟨fun _ _ _ h => h, fun wq hq => ?_, ?_⟩
        · go_light
          obtain ⟨c0, c1, c2⟩ := HSPC.out wq hq
          go_simp
          try with_reducible rfl
          done
        try simp only [Act.put, List.setIfInBounds_toArray, List.set_cons_zero, List.set_cons_succ]
        refine hTake (i := 6) rfl (by kernel_rfl) (by kernel_rfl) (by kernel_rfl) (by kernel_rfl) (by assumption) ?_
        apply Exists.intro
        refine ⟨fun _ _ _ h => h, fun wq hq => ?_, ?_⟩
        · go_light
          obtain ⟨c0, c1, c2⟩ := HSPC.out wq hq
          go_simp
          try with_reducible rfl
          done
        try simp only [Act.put, List.setIfInBounds_toArray, List.set_cons_zero, List.set_cons_succ]
        refine hTake (i := 7) rfl (by kernel_rfl) (by kernel_rfl) (by kernel_rfl) (by kernel_rfl) (by assumption) ?_
        apply Exists.intro
        refine ⟨fun _ _ _ h => h, fun wq hq => ?_, ?_⟩
        · go_light
          obtain ⟨c0, c1, c2⟩ := HSPC.out wq hq
          go_simp
          try with_reducible rfl
          done
        try simp only [Act.put, List.setIfInBounds_toArray, List.set_cons_zero, List.set_cons_succ]
        refine hTake (i := 8) rfl (by kernel_rfl) (by kernel_rfl) (by kernel_rfl) (by kernel_rfl) (by assumption) ?_
        apply Exists.intro
        refine ⟨fun _ _ _ h => h, fun wq hq => ?_, ?_⟩
        · go_light
          obtain ⟨c0, c1, c2⟩ := HSPC.out wq hq
          go_simp
          try with_reducible rfl
          done
        try simp only [Act.put, List.setIfInBounds_toArray, List.set_cons_zero, List.set_cons_succ]
        refine hTake (i := 9) rfl (by kernel_rfl) (by kernel_rfl) (by kernel_rfl) (by kernel_rfl) (by assumption) ?_
        apply Exists.intro
        refine ⟨fun _ _ _ h => h, fun wq hq => ?_, ?_⟩
        · go_light
          obtain ⟨c0, c1, c2⟩ := HSPC.out wq hq
          go_simp
          try with_reducible rfl
          done
        try simp only [Act.put, List.setIfInBounds_toArray, List.set_cons_zero, List.set_cons_succ]
        refine hTake (i := 10) rfl (by kernel_rfl) (by kernel_rfl) (by kernel_rfl) (by kernel_rfl) (by assumption) ?_
        apply Exists.intro
        refine ⟨fun _ _ _ h => h, fun wq hq => ?_, ?_⟩
        · go_light
          obtain ⟨c0, c1, c2⟩ := HSPC.out wq hq
          go_simp
          try with_reducible rfl
          done
        try simp only [Act.put, List.setIfInBounds_toArray, List.set_cons_zero, List.set_cons_succ]
        refine hTake (i := 11) rfl (by kernel_rfl) (by kernel_rfl) (by kernel_rfl) (by kernel_rfl) (by assumption) ?_
        apply Exists.intro
        refine ⟨fun _ _ _ h => h, fun wq hq => ?_, ?_⟩
        · go_light
          obtain ⟨c0, c1, c2⟩ := HSPC.out wq hq
          go_simp
          try with_reducible rfl
          done
        try simp only [Act.put, List.setIfInBounds_toArray, List.set_cons_zero, List.set_cons_succ]
        refine wpAnyH_ready (rs := [0, 12]) (by kernel_rfl) (by simp) ?_
        refine AllReadyH.cons rfl (fun K hK => ?_) (AllReadyH.cons rfl (fun K hK => ?_) AllReadyH.nil)
        case' refine_1 =>
          have c6 := HC6.out
          go_simp
          refine hK.out _ _ HS0.out (fun _ => ?_)
          clear hK K c6
          try simp only [Act.put, List.setIfInBounds_toArray, List.set_cons_zero, List.set_cons_succ]
          refine wpAnyH_ready (rs := [12]) (by kernel_rfl) (by simp) ?_
          refine AllReadyH.cons rfl (fun K hK => ?_) AllReadyH.nil
          go_simp
          refine hK.out _ _ HS7.out (fun _ => ?_)
          clear hK K
        case' refine_2 =>
          go_simp
          refine hK.out _ _ HS7.out (fun _ => ?_)
          clear hK K
          try simp only [Act.put, List.setIfInBounds_toArray, List.set_cons_zero, List.set_cons_succ]
          refine wpAnyH_ready (rs := [0]) (by kernel_rfl) (by simp) ?_
          refine AllReadyH.cons rfl (fun K hK => ?_) AllReadyH.nil
          have c6 := HC7.out
          go_simp
          refine hK.out _ _ HS7.out (fun _ => ?_)
          clear hK K c6
        all_goals
          try simp only [Act.put, List.setIfInBounds_toArray, List.set_cons_zero, List.set_cons_succ]
          refine wpAnyH_ready (rs := [13]) (by kernel_rfl) (by simp) ?_
          refine AllReadyH.cons rfl (fun K hK => ?_) AllReadyH.nil
          refine step_push_ck rfl (.tmp 34) (.tmp 46) rfl w.heap.size (.slice Al nl cl) (.slice (some ⟨W5.heap.size, 0, none⟩) 1 1) (pre.map fun x => tripC L x.1) [⟨b, c, true⟩] nl 1 HNL.out rfl rfl HST7.out.own rfl HCV.out HDL.out HWZ.out ?_
          intro A7 k7 w7 hown7 hk7
          have HS8 := Lib.hid (HSK.out _ _ _ _ HS7.out HST7.out.own hk7)
          refine hK.out _ _ HS8.out (fun _ => ?_)
          clear hK K
          have HB7 := Lib.hid (HOB.out w7 hk7)
          have HOW7 := Lib.hid hown7
          have HK7 := Lib.hid hk7
          clear hown7 hk7
          try simp only [Act.put, List.setIfInBounds_toArray, List.set_cons_zero, List.set_cons_succ]
          refine wpAnyH_ready (rs := [14]) (by kernel_rfl) (by simp) ?_
          refine AllReadyH.cons rfl (fun K hK => ?_) AllReadyH.nil
          have q6 := obj_cell HB7.out (i := 0) rfl
          have z6 := obj_free (i := 0) HB7.out
          go_simp
          refine hK.out _ _ (HNB.out _ HS8.out _ HB7.out) (fun _ => ?_)
          clear hK K q6 z6
          try simp only [Act.put, List.setIfInBounds_toArray, List.set_cons_zero, List.set_cons_succ]
          refine wpAnyH_done (by kernel_rfl) ?_ _
          have hfin := HST7.out.push HNE.out HOW7.out HK7.out
          have HG7 := Lib.hid (HGD.out.alloc (.cells #[.string b, .string c, .bool true] 70))
          have hk0 := HST.out.k0
          have hk1 := HST.out.k1
          refine ⟨((ko_gr HG7.out).trans (ko_own HST7.out.own HK7.out)).trans (KeepsOthers.setCell _ _ _), ⟨hfin.k0.trans hk0.symm, hfin.k1.trans hk1.symm⟩, fun y hy => ?_, _, by rw [List.map_append, List.map_singleton, HQ2.out]; exact hfin⟩
          rcases List.mem_append.1 hy with hy | hy
          · exact HSM.out y hy
          · rw [List.mem_singleton.1 hy]
            exact HKK.out
    · have HKK : Hid (kindB (atS L (3 * x.1)) = false) := Lib.hid (HQ.out.trans (by simpa using hk))
      have hq : q1 = false ∧ q2 = false := by
        cases q1 <;> cases q2 <;> simp at hk ⊢
      obtain ⟨rfl, rfl⟩ := hq
      have hb2 := HST.out.o2
      have hb3 := HST.out.o3
      have z0 := obj_cell hb2 (i := 0) rfl
      have y0 := obj_cell hb3 (i := 0) rfl
      have f0 := obj_free (i := 0) hb2
      have g0 := obj_free (i := 0) hb3
      clear hb2 hb3 hk
      gi_wp2_with fail
      refine ⟨((KeepsOthers.setCell _ _ _).trans (KeepsOthers.setCell _ _ _)), rfl, ⟨x, List.mem_append.2 (.inr (List.mem_singleton.2 rfl)), HKK.out⟩, set_obj_other (set_obj HST.out.o2 _) (Nat.ne_of_lt (Nat.lt_succ_self _)) _, set_obj (set_obj_other HST.out.o3 (Nat.ne_of_gt (Nat.lt_succ_self _)) _) _, (HST.out.gr.setCell (p := ⟨w.heap.size, 0, none⟩) (Nat.le_refl _) _).setCell (p := ⟨w.heap.size + 1, 0, none⟩) (Nat.le_succ _) _⟩
  case done =>
    rintro D ys W hD rfl ⟨hs, vl, st⟩ hK
    have hall := changesF_all HLN.out (fun x => hs x (List.mem_finRange x))
    rw [← HD.out] at hall
    obtain ⟨l, hl⟩ : ∃ l, l = (List.finRange N).map fun x => tripC L x.1 := ⟨_, rfl⟩
    rw [← hl] at st hall
    have hmax : ∀ c ∈ l, c.key.size ≤ 281474976710656 ∧ c.val.size ≤ 281474976710656 := by
      intro c hc
      rw [hl] at hc
      obtain ⟨x, _, rfl⟩ := List.mem_map.1 hc
      have hb : ∀ i, (atS L i).size ≤ 281474976710656 := fun i => by
        by_cases hi : i < L.length
        · rw [atS_get hi]
          exact Nat.le_trans (HZ.out _ (List.getElem_mem hi)) (by decide)
        · unfold atS
          rw [List.getElem?_eq_none (by omega)]
          exact Nat.zero_le _
      exact ⟨hb _, hb _⟩
    have HBA := Lib.hid (batch_any vl l W st.own.cv hmax)
    have HF := Lib.hid hall
    have HST := Lib.hid st
    have HK := Lib.hid hK
    have HDW := Lib.hid (Nat.le_trans HWS.out hD)
    obtain ⟨Al, nl, cl, rfl⟩ : ∃ A n c, vl = .slice A n c := by
      obtain ⟨A, c, h, -, -⟩ := own_form st.own
      exact ⟨A, _, c, h⟩
    have p6 := obj_cell st.o6 (i := 0) rfl
    clear hs hall hl hmax st hK hD
    gi_wp2_with fail
    refine ⟨trivial, ?_⟩
    refine (callsIn_wide.2 HBA.out).mono ?_
    rintro e w5 ⟨rfl, g5⟩
    have HST5 := Lib.hid (HST.out.gr' g5)
    have hb2 := HST5.out.o2
    have hb3 := HST5.out.o3
    have z0 := obj_cell hb2 (i := 0) rfl
    have y0 := obj_cell hb3 (i := 0) rfl
    have f0 := obj_free (i := 0) hb2
    have g0 := obj_free (i := 0) hb3
    have p6 := obj_cell HST5.out.o6 (i := 0) rfl
    have HK5 := Lib.hid (gr_obj g5 HK.out)
    clear g5 HBA hb2 hb3
    by_cases he : batchE l = 0
    · have HF2 := Lib.hid (HF.out.trans (if_pos he))
      rw [he]
      clear he
      gi_wp2_with fail
      obtain ⟨hK7, hfin⟩ := HST5.out.fin (.slice Al nl cl) (.bool true) HK5.out
      refine ⟨by simp, .inl ⟨_, _, rfl, run_takeDeferred hK7, ?_⟩⟩
      obtain ⟨e2, e3, hown, hgr⟩ := hfin HDW.out (.deferred none)
      have z0 := obj_cell e2 (i := 0) rfl
      have y0 := obj_cell e3 (i := 0) rfl
      clear hfin e2 e3
      refine ⟨.tuple #[.slice Al nl cl, .bool true], ?_, ?_⟩
      · simp [results, Tryz.f75, go_sem, *]
      · rw [HF2.out]
        exact ⟨_, rfl, hown, hgr⟩
    · have HF2 := Lib.hid (HF.out.trans (if_neg he))
      have t0 : ¬ ((batchE l : Int) = 0) := by omega
      have t1 : ((batchE l : Int) != 0) = true := int_bne_t' t0
      clear he
      gi_wp2_with fail
      obtain ⟨hK7, hfin⟩ := HST5.out.fin (.slice none 0 0) (.bool false) HK5.out
      refine ⟨by simp, .inl ⟨_, _, rfl, run_takeDeferred hK7, ?_⟩⟩
      obtain ⟨e2, e3, hown, hgr⟩ := hfin HDW.out (.deferred none)
      have z0 := obj_cell e2 (i := 0) rfl
      have y0 := obj_cell e3 (i := 0) rfl
      clear hfin e2 e3
      refine ⟨.tuple #[.slice none 0 0, .bool false], ?_, ?_⟩
      · simp [results, Tryz.f75, go_sem, *]
      · rw [HF2.out]
        exact ⟨_, rfl, CO.nil _ _, hgr⟩
  case stop =>
    rintro D c pre W hD _ ⟨rfl, ⟨x, hx, hx0⟩, ho2, ho3, hgr⟩ hK
    have HF := Lib.hid (show changesR s.data.toList = none by rw [HD.out]; exact changesF_bad HLN.out x hx0)
    have hDW := Nat.le_trans HWS.out hD
    gi_wp2_with fail
    refine ⟨by simp, .inl ⟨_, _, rfl, run_takeDeferred hK, ?_⟩⟩
    have hD1 : D ≠ w.heap.size ∧ D ≠ w.heap.size + 1 := by
      refine ⟨fun e => ?_, fun e => ?_⟩
      · rw [e, ho2] at hK; cases hK
      · rw [e, ho3] at hK; cases hK
    have e2' := put_other (o' := .deferred none) ho2 hD1.1.symm
    have e3' := put_other (o' := .deferred none) ho3 hD1.2.symm
    have hgr' := gr_far hgr (grownBy_putObj' W D (.deferred none)) (fun r e => by cases e; exact hDW)
    obtain ⟨WG, hWG⟩ : ∃ x, x = W.putObj D (.deferred none) := ⟨_, rfl⟩
    rw [← hWG] at e2' e3' hgr' ⊢
    have z0 := obj_cell e2' (i := 0) rfl
    have y0 := obj_cell e3' (i := 0) rfl
    clear ho2 ho3 hK hgr hWG e2' e3' hD1 hx hx0
    refine ⟨.tuple #[.slice none 0 0, .bool false], ?_, ?_⟩
    · simp [results, Tryz.f75, go_sem, *]
    · rw [HF.out]
      exact ⟨_, rfl, CO.nil _ _, hgr'⟩
end Go.Proofs.YtlnhbndghnkfmaaGreatDoor
