/- Walks: the files that a store doesn't use go, the last one first: the program's. -/
import Derived.Test.YtlnhbndghnkfmaaGreatDoorZm38
import Derived.Test.YtlnhbndghnkfmaaGreatDoorZm39
import Derived.Test.YtlnhbndghnkfmaaGreatDoorZm16
import Derived.Test.YtlnhbndghnkfmaaGreatDoorZm28
import Derived.Sort.CutIn
namespace Go.Proofs.YtlnhbndghnkfmaaGreatDoor
open Go.RowKit Go.Shelf
attribute [local go_sem] Oper.semAt_some

/-- The files that a store of these tables and this generation keeps; what drops the others, the last one first. -/
noncomputable def keptF (L : List F) (T : List ByteArray) (g : Nat) : List F := L.filter (fun f => !strayS T g f.name)
noncomputable def strayO (L : List F) (T : List ByteArray) (g : Nat) : List O := (L.reverse.filter (fun f => strayS T g f.name)).map (fun f => ⟨4, f.name, ⟨#[]⟩, 0⟩)
def RetStrays (B bd : Nat) (vM vT : Value) (L : List F) (M : List CR) (T : List ByteArray) (g m : Nat) (D : List O) (w : World) (e : Ending) (w' : World) : Prop :=
  e = .returned (.tuple #[]) ∧ (∃ vF vD, DRow w' B bd vF vM vT vD (keptF L T g) M T g m (D ++ strayO L T g)) ∧ Below B w w'
/-- Of the files that have come those that are kept, and what drops the others. -/
noncomputable def usedR (L : List F) (T : List ByteArray) (g : Nat) {N : Nat} (pre : List (Fin N)) : List F := (pre.map fun x => atF L x.1).filter (fun f => !strayS T g f.name)
noncomputable def goneR (L : List F) (T : List ByteArray) (g : Nat) {N : Nat} (pre : List (Fin N)) : List O := ((pre.map fun x => atF L x.1).filter (fun f => strayS T g f.name)).map (fun f => ⟨4, f.name, ⟨#[]⟩, 0⟩)
theorem usedR_yes {L : List F} {T : List ByteArray} {g N : Nat} {pre : List (Fin N)} {x : Fin N} (h : strayS T g (atF L x.1).name = true) : usedR L T g (pre ++ [x]) = usedR L T g pre ∧ goneR L T g (pre ++ [x]) = goneR L T g pre ++ [⟨4, (atF L x.1).name, ⟨#[]⟩, 0⟩] := by
  unfold usedR goneR
  rw [List.map_append, List.filter_append, List.filter_append, List.map_append]
  simp [h]
theorem usedR_no {L : List F} {T : List ByteArray} {g N : Nat} {pre : List (Fin N)} {x : Fin N} (h : strayS T g (atF L x.1).name = false) : usedR L T g (pre ++ [x]) = usedR L T g pre ++ [atF L x.1] ∧ goneR L T g (pre ++ [x]) = goneR L T g pre := by
  unfold usedR goneR
  rw [List.map_append, List.filter_append, List.filter_append, List.map_append]
  simp [h]
theorem map_atF (L : List F) : ((List.finRange L.length).map fun x => atF L x.1) = L := by
  apply List.ext_getElem
  · simp
  · intro i h1 h2
    simp only [List.getElem_map, List.getElem_finRange]
    exact atF_get (L := L) (by simpa using h2)
theorem usedR_all {L : List F} {T : List ByteArray} {g N : Nat} (hN : N = L.length) : usedR L T g (List.finRange N).reverse = (keptF L T g).reverse ∧ goneR L T g (List.finRange N).reverse = strayO L T g := by
  subst hN
  unfold usedR goneR keptF strayO
  rw [List.map_reverse, map_atF, List.filter_reverse]
  exact ⟨rfl, rfl⟩
theorem usedR_len {L : List F} {T : List ByteArray} {g N : Nat} (pre : List (Fin N)) : (usedR L T g pre).length ≤ pre.length ∧ (goneR L T g pre).length ≤ pre.length := by
  unfold usedR goneR
  constructor
  · exact Nat.le_trans (List.length_filter_le _ _) (by simp)
  · rw [List.length_map]
    exact Nat.le_trans (List.length_filter_le _ _) (by simp)
/-- What the loop has in memory. -/
structure DSI (w : World) (B bd : Nat) (vF vM vT : Value) (L : List F) (M : List CR) (T : List ByteArray) (g m : Nat) (D : List O) (U : List F) (G : List O) (vU vD : Value) (W : World) : Prop where
  o1 : W.heap[w.heap.size]? = some (.cells #[.pointer (some ⟨bd, 0, none⟩)] 111 (0, 0))
  o2 : W.heap[w.heap.size + 1]? = some (.cells #[vU] 22 (0, 0))
  o3 : W.heap[w.heap.size + 2]? = some (.cells #[vF] 22 (0, 0))
  used : FO W w.heap.size vU U
  row : DRow W B bd vF vM vT vD L M T g m (D ++ G)
  below : Below B w W
theorem DSI.far {w : World} {B bd : Nat} {vF vM vT : Value} {L : List F} {M : List CR} {T : List ByteArray} {g m : Nat} {D : List O} {U : List F} {G : List O} {vU vD : Value} {W W' : World} {row : Option Nat} (h : DSI w B bd vF vM vT L M T g m D U G vU vD W) (hg : W.grownBy W' row) (hB : ∀ r, row = some r → B ≤ r)
    (hr : ∀ r, row = some r → ∃ o : Obj, W.heap[r]? = some o ∧ o.isCells = false) (hBW : B ≤ w.heap.size) : DSI w B bd vF vM vT L M T g m D U G vU vD W' :=
  ⟨cells_far h.o1 hg hr, cells_far h.o2 hg hr, cells_far h.o3 hg hr, row_far h.used hg hr, ⟨cells_far h.row.obj hg hr, h.row.base, row_far h.row.files hg hr, row_far h.row.mem hg hr, row_far h.row.tabs hg hr, row_far h.row.ops hg hr⟩,
    h.below.grown hg (by have := h.below.size; omega) (fun k e => hB k e)⟩
theorem DSI.gr {w : World} {B bd : Nat} {vF vM vT : Value} {L : List F} {M : List CR} {T : List ByteArray} {g m : Nat} {D : List O} {U : List F} {G : List O} {vU vD : Value} {W W' : World} (h : DSI w B bd vF vM vT L M T g m D U G vU vD W) (q : Gr W W') (hBW : B ≤ w.heap.size) : DSI w B bd vF vM vT L M T g m D U G vU vD W' :=
  ⟨gr_obj q h.o1, gr_obj q h.o2, gr_obj q h.o3, h.used.gr q, h.row.gr q, h.below.trans ⟨q.os, q.tape, q.output, q.size, fun i hi => q.block i (by have := h.below.size; omega)⟩⟩
theorem push_room {a N d : Nat} (h : (d + N + 1) * 48 ≤ 140737488355328) (h2 : a ≤ N) : a + 1 ≤ maxLen ∧ (a + 1) * 48 ≤ 140737488355328 ∧ (d + a + 1) * 48 ≤ 140737488355328 ∧ d + a + 1 ≤ maxLen := by
  unfold maxLen
  omega
theorem own_ne_of {w w' : World} {B size n : Nat} {t : TypeId} {v : Value} {xs : List Value} {r : Option Nat} (h : w.ownsRow B t size v n xs) (k : Kp r w w') (hr : ∀ b, v.ownBlock = some b → r ≠ some b) : w'.ownsRow B t size v n xs :=
  own_ks h (KS.of_kp (S := fun b => r = some b) k (fun _ e => e)) (fun b hb e => hr b hb e)
theorem DSI.more {w : World} {B bd : Nat} {vF vM vT : Value} {L : List F} {M : List CR} {T : List ByteArray} {g m : Nat} {D : List O} {U U' : List F} {G : List O} {vU vD v' : Value} {W w7 : World} (h : DSI w B bd vF vM vT L M T g m D U G vU vD W) (hBW : B ≤ w.heap.size) (hwW : w.heap.size ≤ W.heap.size)
    (hF : ∀ b, vF.ownBlock = some b → b < w.heap.size) (hown : FO w7 w.heap.size v' U') (hk : Kp vU.ownBlock W w7) : DSI w B bd vF vM vT L M T g m D U' G v' vD (w7.setCell ⟨w.heap.size + 1, 0, none⟩ v') := by
  have p1 := kp_obj hk h.o1 (own_ne_obj h.used h.o1 (by decide))
  have p2 := kp_obj hk h.o2 (own_ne_obj h.used h.o2 (by decide))
  have p3 := kp_obj hk h.o3 (own_ne_obj h.used h.o3 (by decide))
  have pd := kp_obj hk h.row.obj (own_ne_obj h.used h.row.obj (by decide))
  have hbd : bd ≠ w.heap.size + 1 := fun e => by
    rw [e, p2] at pd
    cases pd
  have qF := own_ne_of h.row.files hk (fun b hb e => by
    have := hF b hb
    have := (own_lt h.used e).2
    omega)
  have qM := own_past h.row.mem (own_le h.used hBW) (by decide) hk
  have qT := own_past h.row.tabs (own_le h.used hBW) (by decide) hk
  have qD := own_past h.row.ops (own_le h.used hBW) (by decide) hk
  have k1 : KS (fun k => w.heap.size ≤ k) W w7 := KS.of_kp (S := fun k => w.heap.size ≤ k) hk (fun b hb => (own_lt h.used hb).2)
  exact ⟨set_obj_other p1 (by omega) _, set_obj p2 _, set_obj_other p3 (by omega) _, own_set_obj hown p2 (by decide) _,
    ⟨set_obj_other pd hbd _, h.row.base, own_set_obj qF p2 (by decide) _, own_set_obj qM p2 (by decide) _, own_set_obj qT p2 (by decide) _, own_set_obj qD p2 (by decide) _⟩,
    (k1.below h.below (Nat.le_trans hBW hwW) (fun _ h => Nat.le_trans hBW h)).setCell (p := ⟨w.heap.size + 1, 0, none⟩) (Nat.le_trans hBW (Nat.le_succ _)) _⟩
theorem DSI.did {w : World} {B bd : Nat} {vF vM vT : Value} {L : List F} {M : List CR} {T : List ByteArray} {g m : Nat} {D : List O} {U : List F} {G G' : List O} {vU vD v' : Value} {W w7 : World} (h : DSI w B bd vF vM vT L M T g m D U G vU vD W) (hBW : B ≤ w.heap.size) (hwW : w.heap.size ≤ W.heap.size)
    (hown : OO w7 B v' (D ++ G')) (hk : Kp vD.ownBlock W w7) : DSI w B bd vF vM vT L M T g m D U G' vU v' (w7.setCell ⟨bd, 5, none⟩ v') := by
  have p1 := kp_obj hk h.o1 (own_ne_obj h.row.ops h.o1 (by decide))
  have p2 := kp_obj hk h.o2 (own_ne_obj h.row.ops h.o2 (by decide))
  have p3 := kp_obj hk h.o3 (own_ne_obj h.row.ops h.o3 (by decide))
  have pd := kp_obj hk h.row.obj (own_ne_obj h.row.ops h.row.obj (by decide))
  have hb : ∀ {b : Nat} {o : Obj}, w7.heap[b]? = some o → o ≠ .cells #[vF, vM, vT, .int .i64 (g : Int), .int .i64 (m : Int), vD] 74 (0, 0) → b ≠ bd := fun h1 h2 e => by
    rw [e, pd] at h1
    exact h2 (Option.some.inj h1).symm
  have qU := own_ne_of h.used hk (fun b hb => own_types (own_le h.used hBW) h.row.ops (by decide) hb)
  have qF := own_past h.row.files h.row.ops (by decide) hk
  have qM := own_past h.row.mem h.row.ops (by decide) hk
  have qT := own_past h.row.tabs h.row.ops (by decide) hk
  have k1 : KS (fun k => B ≤ k) W w7 := KS.of_kp (S := fun k => B ≤ k) hk (fun b hb => (own_lt h.row.ops hb).2)
  exact ⟨set_obj_other p1 (hb p1 (by simp)) _, set_obj_other p2 (hb p2 (by simp)) _, set_obj_other p3 (hb p3 (by simp)) _, own_set_obj qU pd (by decide) _,
    ⟨set_obj pd _, h.row.base, own_set_obj qF pd (by decide) _, own_set_obj qM pd (by decide) _, own_set_obj qT pd (by decide) _, own_set_obj hown pd (by decide) _⟩,
    (k1.below h.below (by omega) (fun _ h => h)).setCell (p := ⟨bd, 5, none⟩) h.row.base _⟩
theorem set_other {w : World} {b k i : Nat} {v : Value} (hk : k < w.heap.size) (hne : k ≠ b) : (w.setCell ⟨b, i, none⟩ v).heap[k]? = w.heap[k]? := by
  have h := Array.getElem?_eq_getElem hk
  rw [set_obj_other h hne v, h]
theorem kepts {B0 b1 i : Nat} {v : Value} {AF : Option Addr} {W W6 w7 : World} {r : Option Nat} (g : Gr W W6) (k : Kp r W6 w7) (h0 : B0 < W.heap.size) (h0r : r ≠ some B0) (h01 : B0 ≠ b1) (hA : ∀ p, AF = some p → p.block < W.heap.size ∧ r ≠ some p.block ∧ p.block ≠ b1) : KeptS B0 AF W (w7.setCell ⟨b1, i, none⟩ v) := by
  have key : ∀ j, j < W.heap.size → r ≠ some j → j ≠ b1 → (w7.setCell ⟨b1, i, none⟩ v).heap[j]? = W.heap[j]? := fun j hj hr hne => by
    have hj6 : j < W6.heap.size := Nat.lt_of_lt_of_le hj g.size
    rw [set_other (Nat.lt_of_lt_of_le hj6 k.size) hne, k.block j hj6 (fun e => hr e.symm), g.block j hj]
  exact ⟨key _ h0 h0r h01, fun p e => key _ (hA p e).1 (hA p e).2.1 (hA p e).2.2⟩
theorem DSI.turn {w : World} {B bd : Nat} {vF vM vT : Value} {L : List F} {M : List CR} {T : List ByteArray} {g m : Nat} {D : List O} {U U' : List F} {G : List O} {vU vD : Value} {W w7 : World} (h : DSI w B bd vF vM vT L M T g m D U G vU vD W) (hBW : B ≤ w.heap.size) (hwW : w.heap.size ≤ W.heap.size)
    (hF : ∀ b, vF.ownBlock = some b → b < w.heap.size) (hown : FO w7 w.heap.size vU U') (hk : Kp vU.ownBlock W w7) : DSI w B bd vF vM vT L M T g m D U' G vU vD w7 := by
  have p1 := kp_obj hk h.o1 (own_ne_obj h.used h.o1 (by decide))
  have p2 := kp_obj hk h.o2 (own_ne_obj h.used h.o2 (by decide))
  have p3 := kp_obj hk h.o3 (own_ne_obj h.used h.o3 (by decide))
  have pd := kp_obj hk h.row.obj (own_ne_obj h.used h.row.obj (by decide))
  have qF := own_ne_of h.row.files hk (fun b hb e => by
    have := hF b hb
    have := (own_lt h.used e).2
    omega)
  have qM := own_past h.row.mem (own_le h.used hBW) (by decide) hk
  have qT := own_past h.row.tabs (own_le h.used hBW) (by decide) hk
  have qD := own_past h.row.ops (own_le h.used hBW) (by decide) hk
  have k1 : KS (fun k => w.heap.size ≤ k) W w7 := KS.of_kp (S := fun k => w.heap.size ≤ k) hk (fun b hb => (own_lt h.used hb).2)
  exact ⟨p1, p2, p3, hown, ⟨pd, h.row.base, qF, qM, qT, qD⟩, k1.below h.below (Nat.le_trans hBW hwW) (fun _ h => Nat.le_trans hBW h)⟩
/-- The draft's files are these now; the loop's record is laid down. -/
theorem DSI.fin {w : World} {B bd : Nat} {vF vM vT : Value} {L : List F} {M : List CR} {T : List ByteArray} {g m : Nat} {D : List O} {U : List F} {G : List O} {vU vD : Value} {W : World} {Dx : Nat} {o : Obj} (h : DSI w B bd vF vM vT L M T g m D U G vU vD W) (hBW : B ≤ w.heap.size) (hx : B ≤ Dx) (hK : W.heap[Dx]? = some o) (ho : o.isCells = false) :
    (W.setCell ⟨bd, 0, none⟩ vU).heap[Dx]? = some o ∧ ∀ o', DRow ((W.setCell ⟨bd, 0, none⟩ vU).putObj Dx o') B bd vU vM vT vD U M T g m (D ++ G) ∧ Below B w ((W.setCell ⟨bd, 0, none⟩ vU).putObj Dx o') := by
  have hne : Dx ≠ bd := fun e => by
    rw [e, h.row.obj] at hK
    cases hK
    cases ho
  have hK2 := set_obj_other hK hne vU (i := 0)
  refine ⟨hK2, fun o' => ?_⟩
  have d1 : DRow (W.setCell ⟨bd, 0, none⟩ vU) B bd vU vM vT vD U M T g m (D ++ G) :=
    ⟨set_obj h.row.obj _, h.row.base, own_le (own_set_obj h.used h.row.obj (by decide) _) hBW, own_set_obj h.row.mem h.row.obj (by decide) _, own_set_obj h.row.tabs h.row.obj (by decide) _, own_set_obj h.row.ops h.row.obj (by decide) _⟩
  have hgF : (W.setCell ⟨bd, 0, none⟩ vU).grownBy ((W.setCell ⟨bd, 0, none⟩ vU).putObj Dx o') (some Dx) := grownBy_putObj' _ _ _
  have hr : ∀ r, some Dx = some r → ∃ o : Obj, (W.setCell ⟨bd, 0, none⟩ vU).heap[r]? = some o ∧ o.isCells = false := fun r e => by cases e; exact ⟨_, hK2, ho⟩
  have b1 := h.below.setCell (p := ⟨bd, 0, none⟩) h.row.base vU
  exact ⟨⟨cells_far d1.obj hgF hr, d1.base, row_far d1.files hgF hr, row_far d1.mem hgF hr, row_far d1.tabs hgF hr, row_far d1.ops hgF hr⟩,
    b1.grown hgF (Nat.le_trans hBW (by have := h.below.size; simp [World.setCell]; omega)) (fun k e => by cases e; exact hx)⟩
set_option linter.unusedSimpArgs false in
set_option maxRecDepth 100000 in
set_option maxHeartbeats 4000000 in
theorem strays_m (B bd : Nat) (vF vM vT vD : Value) (L : List F) (M : List CR) (T : List ByteArray) (g m : Nat) (D : List O) (w : World) (hD : DRow w B bd vF vM vT vD L M T g m D) (hf : Fit L) (hg : g ≤ 9223372036854775807)
    (hpl : (D.length + L.length + 1) * 48 ≤ 140737488355328) (hB : B ≤ w.heap.size) :
    Calls Tryz.prog 73 #[.pointer (some ⟨bd, 0, none⟩)] w fun e w' => RetStrays B bd vM vT L M T g m D w e w' := by
  obtain ⟨AF, cF, rfl, hc1, hc2⟩ := own_form hD.files
  obtain ⟨N, hN⟩ : ∃ N, N = L.length := ⟨_, rfl⟩
  rw [← hN] at hD hpl hc1
  have HN := Lib.hid hN
  clear hN
  have HFB : Hid (∀ b, (Value.slice AF N cF).ownBlock = some b → b < w.heap.size) := Lib.hid (fun b hb => (own_lt hD.files hb).1)
  have HFit := Lib.hid hf
  have HD := Lib.hid hD
  have HB := Lib.hid hB
  obtain ⟨W, hW⟩ : ∃ W, W = (w.alloc (.cells #[.pointer (some ⟨bd, 0, none⟩)] 111)).alloc (.cells #[.slice none 0 0] 22) := ⟨_, rfl⟩
  have HGW : Hid (Gr w W) := Lib.hid (by rw [hW]; exact (gr_box _ _).alloc _)
  have HO1 : Hid (W.heap[w.heap.size]? = some (.cells #[.pointer (some ⟨bd, 0, none⟩)] 111 (0, 0))) := Lib.hid (by rw [hW]; exact gr_obj (gr_box _ _) (heap_alloc_new w _))
  have HO2 : Hid (W.heap[w.heap.size + 1]? = some (.cells #[.slice none 0 0] 22 (0, 0))) := Lib.hid (by
    rw [hW]
    have := heap_alloc_new (w.alloc (.cells #[.pointer (some ⟨bd, 0, none⟩)] 111)) (.cells #[.slice none 0 0] 22)
    simpa using this)
  have HWS : Hid (W.heap.size = w.heap.size + 2) := Lib.hid (by rw [hW]; simp)
  have p1 := obj_cell HO1.out (i := 0) rfl
  have d0 := obj_cell (gr_obj HGW.out HD.out.obj) (i := 0) rfl
  clear hf hD hB
  refine (callsIn_wide (n := 8)).1 ?_
  refine callsIn_of_wp_marks Tryz.func73 rfl trivial ?_ rfl
  simp only [Tryz.ntmps73, List.size_toArray, List.length_cons, List.length_nil, Nat.reduceAdd, Nat.reduceSub, Array.replicate_succ, Array.replicate_zero, List.push_toArray, List.append_toArray, List.nil_append, List.cons_append]
  gi_upto_region 2 with (fail)
  rw [← hW]
  clear hW
  gi_wp2_with fail
  refine ⟨trivial, ?_⟩
  refine (callsIn_wide.2 (bF_any _ _ _ _)).mono ?_
  rintro e w4 ⟨rfl, hw4⟩
  have hg4 : Gr W w4 := by rw [hw4]; exact gr_box _ _
  have ho3 : w4.heap[w.heap.size + 2]? = some (.cells #[.slice AF N cF] 22 (0, 0)) := by
    rw [hw4, ← HWS.out]
    exact heap_alloc_new W _
  rw [HWS.out]
  have st0 : DSI w B bd (.slice AF N cF) vM vT L M T g m D [] [] (.slice none 0 0) vD w4 :=
    ⟨gr_obj hg4 HO1.out, gr_obj hg4 HO2.out, ho3, FO.nil _ _, by rw [List.append_nil]; exact HD.out.gr (HGW.out.trans hg4), Below.mono (HGW.out.trans hg4) HB.out⟩
  obtain ⟨B0, hB0⟩ : ∃ x, x = w.heap.size + 2 := ⟨_, rfl⟩
  have HS0 := Lib.hid st0
  have HWS4 : Hid (w.heap.size + 3 ≤ w4.heap.size) := Lib.hid (by rw [hw4]; simp; have := HWS.out; omega)
  have HW4 : Hid (w4.cell? ⟨w.heap.size + 2, 0, none⟩ = some (.slice AF N cF)) := Lib.hid (obj_cell ho3 (i := 0) rfl)
  have HFV : Hid (FV w4 (.slice AF N cF) L) := Lib.hid (by have := st0.row.files.fv; exact this)
  have HAB : Hid (∀ p, AF = some p → p.block < w4.heap.size) := Lib.hid (fun p e => by
    subst e
    exact (own_lt st0.row.files rfl).1)
  clear hw4 hg4 ho3 st0
  gi_wp2_with fail
  clear p1 d0
  have HBlt : Hid (w.heap.size + 2 < w4.heap.size) := Lib.hid (by have := HWS4.out; omega)
  refine' wpIn_rangeFunc_ownH (F := Fence.wide) rfl (by decide) (gf := 147) (lb := #[.pointer (some ⟨w.heap.size + 2, 0, none⟩)]) rfl trivial (enters_of Tryz.func147 (by kernel_rfl) rfl)
    (bF_stops 7 (by decide) (w.heap.size + 2) AF N cF L hc1 hc2 w4 HBlt.out HAB.out HW4.out HFV.out) (fun h k => h.trans k)
    (fun W l o o' hl _ _ _ => ⟨World.putObj_heap_other (by have := HBlt.out; omega), fun p e => World.putObj_heap_other (by have := HAB.out p e; omega)⟩) (Below.refl _ _) (fun _ => rfl)
    (fun pre W => ∃ vU vD', DSI w B bd (.slice AF N cF) vM vT L M T g m D (usedR L T g pre) (goneR L T g pre) vU vD' W)
    (fun _ _ _ => False)
    (fun pre A B' row hs hg hr => hs.imp fun vU h => h.imp fun vD' h => h.far hg (fun r e => by have := (hr r e).1; have := HB.out; have := HBlt.out; omega) (fun r e => (hr r e).2) HB.out)
    (fun _ _ _ _ _ hs _ _ => hs)
    ⟨_, _, HS0.out⟩
    (fun x a' W => ∃ Bx, w.heap.size + 2 < Bx ∧ W.heap[Bx]? = some (.cells #[.string (atF L x.1).name, .string (atF L x.1).kept, .string (atF L x.1).loose] 63 (0, 0)) ∧ a' = ⟨#[.pointer (some ⟨bd, 0, none⟩), .pointer (some ⟨w.heap.size, 0, none⟩), .pointer (some ⟨w.heap.size + 1, 0, none⟩), undef, .pointer (some ⟨Bx, 0, none⟩), .pointer (some ⟨bd, 0, none⟩), .pointer (some ⟨bd, 0, none⟩), .pointer (some ⟨bd, 0, none⟩), .pointer (some ⟨bd, 0, none⟩), .pointer (some ⟨bd, 0, none⟩), .slice AF N cF, .func (.func 147) #[] #[.pointer (some ⟨w.heap.size + 2, 0, none⟩)], .int .i64 (x.1 : Int), .agg #[.string (atF L x.1).name, .string (atF L x.1).kept, .string (atF L x.1).loose], undef, undef, undef, undef, undef, undef, undef, undef, undef, undef, undef, undef, undef, undef, undef, undef, undef, undef, undef, undef, undef, undef, undef, undef, undef, undef, undef, undef], []⟩)
    (fun x a' _ A B' row hs hg hr => hs.imp fun Bx h => ⟨h.1, cells_far h.2.1 hg (fun r e => (hr r e).2), h.2.2⟩)
    ?assign ?body ?done ?stop
  case assign =>
    intro l pre x W K hi hK
    unfold vF
    obtain ⟨f, hf⟩ : ∃ f, f = atF L x.1 := ⟨_, rfl⟩
    rw [← hf] at hK ⊢
    obtain ⟨vU, vD', st⟩ := hi
    have HST := Lib.hid st
    clear st hf
    gi_wp2_with fail
    have h3 := (Array.getElem?_eq_some_iff.1 HST.out.o3).1
    refine hK _ _ ((KeepsOthers.alloc _ _).from _) ?_ ⟨vU, vD', HST.out.gr (gr_box _ _) HB.out⟩ ⟨W.heap.size, h3, heap_alloc_new _ _, rfl⟩
    exact KeptS.of_block (fun k hk _ => (gr_box W _).block k hk) h3 (fun p e => by subst e; exact (own_lt HST.out.row.files rfl).1)
  case body =>
    rintro l pre x a' W hl ⟨r, hr⟩ ⟨vU, vD', st⟩ ⟨Bx, hBx, hx, rfl⟩ hlt
    have hxN : x.1 < L.length := by rw [← HN.out]; exact x.2
    have hfit := HFit.out (atF L x.1) (by rw [atF_get hxN]; exact List.getElem_mem hxN)
    have HS := Lib.hid (stray_any bd vT T g (atF L x.1).name W (Nat.le_trans hfit.1 (by decide)) hg (obj_cell st.row.obj (i := 2) rfl) (obj_cell st.row.obj (i := 3) rfl) st.row.tabs.sv)
    have hyes := usedR_yes (L := L) (T := T) (g := g) (pre := pre) (x := x)
    have hno := usedR_no (L := L) (T := T) (g := g) (pre := pre) (x := x)
    have hlen := usedR_len (L := L) (T := T) (g := g) pre
    obtain ⟨f, hf⟩ : ∃ f, f = atF L x.1 := ⟨_, rfl⟩
    rw [← hf] at hx hyes hno HS
    obtain ⟨U, hU⟩ : ∃ U, U = usedR L T g pre := ⟨_, rfl⟩
    obtain ⟨G, hG⟩ : ∃ G, G = goneR L T g pre := ⟨_, rfl⟩
    rw [← hU, ← hG] at st hyes hno hlen
    have HYES := Lib.hid hyes
    have HNO := Lib.hid hno
    have HST := Lib.hid st
    have HX := Lib.hid hx
    have p1 := obj_cell st.o1 (i := 0) rfl
    have x0 := obj_cell hx (i := 0) rfl
    have HLU : Hid (U.length ≤ N) := Lib.hid (by omega)
    have HLG : Hid (G.length ≤ N) := Lib.hid (by omega)
    have HR := Lib.hid hr
    have HL := Lib.hid hl
    clear hfit hyes hno hlen hU hG st hx hr hl hf hlt hxN
    gi_wp2_with fail
    refine ⟨trivial, ?_⟩
    refine (CallsIn.inRound l (callsIn_wide.2 HS.out)).mono ?_
    rintro e w5 ⟨rfl, g5⟩
    have HX5 := Lib.hid (gr_obj g5 HX.out)
    have HST5 := Lib.hid (HST.out.gr g5 HB.out)
    have HG5 := Lib.hid g5
    clear p1 x0 g5 HS
    have p1 := obj_cell HST5.out.o1 (i := 0) rfl
    have p2 := obj_cell HST5.out.o2 (i := 0) rfl
    have z2 := obj_free (i := 0) HST5.out.o2
    have x0 := obj_cell HX5.out (i := 0) rfl
    have x1 := obj_cell HX5.out (i := 1) rfl
    have x2 := obj_cell HX5.out (i := 2) rfl
    rcases hq : strayS T g f.name with _ | _
    · have HE := Lib.hid (HNO.out hq)
      clear hq HNO HYES
      obtain ⟨Av, cv, rfl, -, -⟩ := own_form HST5.out.used
      obtain ⟨nv, hnv⟩ : ∃ n, n = U.length := ⟨_, rfl⟩
      have hnN : nv ≤ N := by rw [hnv]; exact HLU.out
      rw [← hnv] at HST5 p2
      have HNV := Lib.hid hnv
      obtain ⟨i0, hi, hz0, hz1, hz2⟩ := info_parts infoFile
      have hrow : w5.ownsRow w.heap.size 63 3 (.slice Av nv cv) nv (fcells U) := by
        have h := HST5.out.used
        unfold FO at h
        rw [← HNV.out] at h
        exact h
      have HROW := Lib.hid hrow
      have hcc : ∀ j u, (fcell f)[j]? = some u → (w5.alloc (.cells #[.string f.name, .string f.kept, .string f.loose] 63)).cell? ((⟨w5.heap.size, 0, none⟩ : Addr).add j) = some u := by
        intro j u hj
        rw [show (⟨w5.heap.size, 0, none⟩ : Addr).add j = ⟨w5.heap.size, j, none⟩ by (simp [Addr.add]; try omega), World.cell?_alloc_mark]
        rw [← hj, show fcell f = (#[Value.string f.name, Value.string f.kept, Value.string f.loose] : Array Value).toList from rfl, Array.getElem?_toList]
      have HCC := Lib.hid hcc
      have HCS : Hid (∀ u ∈ fcell f, u.oneCell' = true) := Lib.hid (by
        intro u hu
        exact fcells_one [f] u (by unfold fcells; simp only [List.flatMap_cons, List.flatMap_nil, List.append_nil]; exact hu))
      have HSZ : Hid (w.heap.size ≤ w5.heap.size) := Lib.hid (Nat.le_trans (Nat.le_add_right _ 2) (Nat.le_of_lt (Array.getElem?_eq_some_iff.1 HST5.out.o3).1))
      have HST6 : Hid (DSI w B bd (.slice AF N cF) vM vT L M T g m D U G (.slice Av nv cv) vD' (w5.alloc (.cells #[.string f.name, .string f.kept, .string f.loose] 63))) := Lib.hid (HST5.out.gr (gr_box _ _) HB.out)
      have HP2 := Lib.hid (fun w7 (hk7 : Kp (Value.slice Av nv cv).ownBlock (w5.alloc (.cells #[.string f.name, .string f.kept, .string f.loose] 63)) w7) => kp_obj hk7 HST6.out.o2 (own_ne_obj (HROW.out.alloc _) HST6.out.o2 (by decide)))
      have HM1 : Hid (nv + 1 ≤ maxLen) := Lib.hid (push_room hpl hnN).1
      have HM2 : Hid ((nv + 1) * 48 ≤ 140737488355328) := Lib.hid (push_room hpl hnN).2.1
      have HM3 : Hid (w.heap.size ≤ (w5.alloc (.cells #[.string f.name, .string f.kept, .string f.loose] 63)).heap.size) := Lib.hid (Nat.le_trans HSZ.out (gr_box _ _).size)
      have HROW6 := Lib.hid (HROW.out.alloc (.cells #[.string f.name, .string f.kept, .string f.loose] 63))
      clear hnv hcc hpl hnN hrow
      gi_upto_region 6 with (fail)
      gi_wp2_with (gi_at_builtin; refine wpListIn_append_own _ rfl (.tmp 30) (.tmp 32) 22 rfl w.heap.size 63 i0 _ 3 48 Tryz.underlying22 hi hz0 hz1 hz2 rfl (by decide) (.slice Av nv cv) nv _ rfl HROW6.out ⟨w5.heap.size, 0, none⟩ 1 1 (fcell f) rfl rfl HCC.out HCS.out HM1.out HM2.out HM3.out ?_; intro v' w7 hown7 hgrow7 _; obtain ⟨A8, c8, rfl, -, -⟩ := own_form hown7; have o2 := HP2.out w7 hgrow7; have q2 := obj_cell o2 (i := 0) rfl; have z2' := obj_free (i := 0) o2; have HOW7 := Lib.hid hown7; have HGW7 := Lib.hid hgrow7; clear hown7 hgrow7 o2)
      obtain ⟨hrowW, hbw⟩ := And.intro HROW6.out HM3.out
      have HG6 := Lib.hid (HG5.out.trans (gr_box w5 (.cells #[.string f.name, .string f.kept, .string f.loose] 63)))
      have hown8 : FO w7 w.heap.size (.slice A8 (nv + 1) c8) (U ++ [f]) := by
        have h := HOW7.out
        unfold FO
        rw [List.length_append, ← HNV.out]
        unfold fcells at h ⊢
        rw [List.flatMap_append]
        simpa using h
      have hfin := HST6.out.more HB.out HM3.out HFB.out hown8 HGW7.out
      rw [← HE.out.1, ← HE.out.2] at hfin
      refine ⟨((((ko_gr HG6.out).trans (ko_own HROW6.out HGW7.out)).trans (KeepsOthers.setCell _ _ _)).from _), ?_, _, _, hfin⟩
      have hz := (Array.getElem?_eq_some_iff.1 HST.out.o3).1
      refine kepts HG6.out HGW7.out hz (own_ne_obj HROW6.out HST6.out.o3 (by decide)) (Nat.ne_of_gt (Nat.lt_succ_self _)) (fun p e => ?_)
      subst e
      have h1 := HFB.out p.block rfl
      exact ⟨Nat.lt_trans (Nat.lt_of_lt_of_le h1 (Nat.le_add_right _ 2)) hz, fun e => Nat.lt_irrefl _ (Nat.lt_of_lt_of_le h1 (own_lt HROW6.out e).2), Nat.ne_of_lt (Nat.lt_succ_of_lt h1)⟩
    · have HE := Lib.hid (HYES.out hq)
      clear hq HNO HYES
      obtain ⟨AD, cD, rfl, -, -⟩ := own_form HST5.out.row.ops
      obtain ⟨nd, hnd⟩ : ∃ n, n = (D ++ G).length := ⟨_, rfl⟩
      have HDL : Hid ((nd + 1) * 48 ≤ 140737488355328) := Lib.hid (by
        have := (push_room hpl HLG.out).2.2.1
        rw [hnd, List.length_append]
        exact this)
      have HND := Lib.hid hnd
      rw [← hnd] at HST5
      obtain ⟨SP, hSP⟩ : ∃ SP : World → Prop, SP = (fun w' => w'.heap[w.heap.size]? = some (.cells #[.pointer (some ⟨bd, 0, none⟩)] 111 (0, 0)) ∧ w'.heap[Bx]? = some (.cells #[.string f.name, .string f.kept, .string f.loose] 63 (0, 0))) := ⟨_, rfl⟩
      have hs0 : SP w5.drew := by
        rw [hSP]
        exact ⟨gr_obj (Gr.refl _).drew HST5.out.o1, gr_obj (Gr.refl _).drew HX5.out⟩
      have HSG : Hid (∀ a b : World, SP a → Gr a b → SP b) := Lib.hid (fun a b h q => by
        rw [hSP] at h ⊢
        exact ⟨gr_obj q h.1, gr_obj q h.2⟩)
      have HSK : Hid (∀ (a b : World) (v : Value) (l : List O), SP a → OO a B v l → Kp v.ownBlock a b → SP b) := Lib.hid (fun a b v l h ho k => by
        rw [hSP] at h ⊢
        exact ⟨kp_obj k h.1 (own_ne_obj ho h.1 (by decide)), kp_obj k h.2 (own_ne_obj ho h.2 (by decide))⟩)
      have HNB : Hid (∀ b : World, SP b → ∀ u, b.heap[bd]? = some (.cells #[.slice AF N cF, vM, vT, .int .i64 (g : Int), .int .i64 (m : Int), .slice AD nd cD] 74 (0, 0)) → SP (b.setCell ⟨bd, 5, none⟩ u)) := Lib.hid (fun b h u hb => by
        rw [hSP] at h ⊢
        exact ⟨set_obj_other h.1 (fun e => by rw [e, hb] at h; cases h.1) _, set_obj_other h.2 (fun e => by rw [e, hb] at h; cases h.2) _⟩)
      have HSPC : Hid (∀ b : World, SP b → b.cell? ⟨w.heap.size, 0, none⟩ = some (.pointer (some ⟨bd, 0, none⟩)) ∧ b.cell? ⟨Bx, 0, none⟩ = some (.string f.name)) := Lib.hid (fun b h => by
        rw [hSP] at h
        exact ⟨obj_cell h.1 (i := 0) rfl, obj_cell h.2 (i := 0) rfl⟩)
      have HS0 := Lib.hid hs0
      have HST7 : Hid (DSI w B bd (.slice AF N cF) vM vT L M T g m D U G vU (.slice AD nd cD) (w5.drew.alloc (.cells #[.int .i64 4, .string f.name, .string ⟨#[]⟩, .int .i64 0] 72))) := Lib.hid (HST5.out.gr ((Gr.refl _).drew.alloc _) HB.out)
      have HS7 : Hid (SP (w5.drew.alloc (.cells #[.int .i64 4, .string f.name, .string ⟨#[]⟩, .int .i64 0] 72))) := Lib.hid (HSG.out _ _ hs0 ((Gr.refl _).alloc _))
      have HC5 : Hid (w5.drew.cell? ⟨bd, 5, none⟩ = some (.slice AD nd cD)) := Lib.hid (obj_cell (gr_obj (Gr.refl _).drew HST5.out.row.obj) (i := 5) rfl)
      have HC6 : Hid ((w5.drew.alloc (.cells #[.int .i64 4, .string f.name, .string ⟨#[]⟩, .int .i64 0] 72)).cell? ⟨bd, 5, none⟩ = some (.slice AD nd cD)) := Lib.hid (obj_cell HST7.out.row.obj (i := 5) rfl)
      have HWZ : Hid (w.heap.size ≤ (w5.drew.alloc (.cells #[.int .i64 4, .string f.name, .string ⟨#[]⟩, .int .i64 0] 72)).heap.size) := Lib.hid (Nat.le_trans (Nat.le_add_right _ 2) (Nat.le_of_lt (Array.getElem?_eq_some_iff.1 HST7.out.o3).1))
      have HOB := Lib.hid (fun w7 (hk7 : Kp (Value.slice AD nd cD).ownBlock (w5.drew.alloc (.cells #[.int .i64 4, .string f.name, .string ⟨#[]⟩, .int .i64 0] 72)) w7) => kp_obj hk7 HST7.out.row.obj (own_ne_obj HST7.out.row.ops HST7.out.row.obj (by decide)))
      have HOV := Lib.hid (oo_one w5.drew ⟨4, f.name, ⟨#[]⟩, 0⟩ 0 (Nat.zero_le _)).ov
      have HNE : Hid (Value.ownBlock (.slice AD nd cD) ≠ some bd) := Lib.hid (own_ne_obj HST7.out.row.ops HST7.out.row.obj (by decide))
      have HLT : Hid (bd < (w5.drew.alloc (.cells #[.int .i64 4, .string f.name, .string ⟨#[]⟩, .int .i64 0] 72)).heap.size) := Lib.hid (Array.getElem?_eq_some_iff.1 HST7.out.row.obj).1
      have HGD : Hid (Gr w5 w5.drew) := Lib.hid (Gr.refl _).drew
      clear hnd p1 p2 z2 x0 x1 x2 hSP hs0
      gi_upto_region 5 with (fail)
      refine heldRound (S := SP) (by kernel_rfl) (by kernel_rfl) (fun h => by obtain ⟨_, _, h⟩ := h; exact h) HS0.out (fun hHeld => ?_)
      generalize w5.drew = W5 at *
      refine hTake (i := 0) rfl (by kernel_rfl) (by kernel_rfl) (by kernel_rfl) (by kernel_rfl) (by assumption) ?_
      apply Exists.intro
      refine ⟨fun _ _ _ h => h, fun wq hq => ?_, ?_⟩
      · go_light
        obtain ⟨c1, c2⟩ := HSPC.out wq hq
        go_simp
        try with_reducible rfl
        done
      try simp only [Act.put, List.setIfInBounds_toArray, List.set_cons_zero, List.set_cons_succ]
      refine hTake (i := 1) rfl (by kernel_rfl) (by kernel_rfl) (by kernel_rfl) (by kernel_rfl) (by assumption) ?_
      apply Exists.intro
      refine ⟨fun _ _ _ h => h, fun wq hq => ?_, ?_⟩
      · go_light
        obtain ⟨c1, c2⟩ := HSPC.out wq hq
        go_simp
        try with_reducible rfl
        done
      try simp only [Act.put, List.setIfInBounds_toArray, List.set_cons_zero, List.set_cons_succ]
      refine hTake (i := 2) rfl (by kernel_rfl) (by kernel_rfl) (by kernel_rfl) (by kernel_rfl) (by assumption) ?_
      apply Exists.intro
      refine ⟨fun _ _ _ h => h, fun wq hq => ?_, ?_⟩
      · go_light
        obtain ⟨c1, c2⟩ := HSPC.out wq hq
        go_simp
        try with_reducible rfl
        done
      try simp only [Act.put, List.setIfInBounds_toArray, List.set_cons_zero, List.set_cons_succ]
      refine hTake (i := 3) rfl (by kernel_rfl) (by kernel_rfl) (by kernel_rfl) (by kernel_rfl) (by assumption) ?_
      apply Exists.intro
      refine ⟨fun _ _ _ h => h, fun wq hq => ?_, ?_⟩
      · go_light
        obtain ⟨c1, c2⟩ := HSPC.out wq hq
        go_simp
        try with_reducible rfl
        done
      try simp only [Act.put, List.setIfInBounds_toArray, List.set_cons_zero, List.set_cons_succ]
      refine hTake (i := 5) rfl (by kernel_rfl) (by kernel_rfl) (by kernel_rfl) (by kernel_rfl) (by assumption) ?_
      apply Exists.intro
      refine ⟨fun _ _ _ h => h, fun wq hq => ?_, ?_⟩
      · go_light
        obtain ⟨c1, c2⟩ := HSPC.out wq hq
        go_simp
        try with_reducible rfl
        done
      try simp only [Act.put, List.setIfInBounds_toArray, List.set_cons_zero, List.set_cons_succ]
      refine hTake (i := 6) rfl (by kernel_rfl) (by kernel_rfl) (by kernel_rfl) (by kernel_rfl) (by assumption) ?_
      apply Exists.intro
      refine ⟨fun _ _ _ h => h, fun wq hq => ?_, ?_⟩
      · go_light
        obtain ⟨c1, c2⟩ := HSPC.out wq hq
        go_simp
        try with_reducible rfl
        done
      try simp only [Act.put, List.setIfInBounds_toArray, List.set_cons_zero, List.set_cons_succ]
      refine hTake (i := 7) rfl (by kernel_rfl) (by kernel_rfl) (by kernel_rfl) (by kernel_rfl) (by assumption) ?_
      apply Exists.intro
      refine ⟨fun _ _ _ h => h, fun wq hq => ?_, ?_⟩
      · go_light
        obtain ⟨c1, c2⟩ := HSPC.out wq hq
        go_simp
        try with_reducible rfl
        done
      try simp only [Act.put, List.setIfInBounds_toArray, List.set_cons_zero, List.set_cons_succ]
      refine wpAnyH_ready (rs := [4, 8]) (by kernel_rfl) (by simp) ?_
      refine AllReadyH.cons rfl (fun K hK => ?_) (AllReadyH.cons rfl (fun K hK => ?_) AllReadyH.nil)
      case' refine_1 =>
        have c5 := HC5.out
        go_simp
        refine hK.out _ _ HS0.out (fun _ => ?_)
        clear hK K c5
        try simp only [Act.put, List.setIfInBounds_toArray, List.set_cons_zero, List.set_cons_succ]
        refine wpAnyH_ready (rs := [8]) (by kernel_rfl) (by simp) ?_
        refine AllReadyH.cons rfl (fun K hK => ?_) AllReadyH.nil
        go_simp
        refine hK.out _ _ HS7.out (fun _ => ?_)
        clear hK K
      case' refine_2 =>
        go_simp
        refine hK.out _ _ HS7.out (fun _ => ?_)
        clear hK K
        try simp only [Act.put, List.setIfInBounds_toArray, List.set_cons_zero, List.set_cons_succ]
        refine wpAnyH_ready (rs := [4]) (by kernel_rfl) (by simp) ?_
        refine AllReadyH.cons rfl (fun K hK => ?_) AllReadyH.nil
        have c5 := HC6.out
        go_simp
        refine hK.out _ _ HS7.out (fun _ => ?_)
        clear hK K c5
      all_goals
        try simp only [Act.put, List.setIfInBounds_toArray, List.set_cons_zero, List.set_cons_succ]
        refine wpAnyH_ready (rs := [9]) (by kernel_rfl) (by simp) ?_
        refine AllReadyH.cons rfl (fun K hK => ?_) AllReadyH.nil
        refine step_push_o rfl (.tmp 22) (.tmp 26) rfl B (.slice AD nd cD) (.slice (some ⟨W5.heap.size, 0, none⟩) 1 1) (D ++ G) [⟨4, f.name, ⟨#[]⟩, 0⟩] nd 1 HND.out rfl rfl HST7.out.row.ops rfl HOV.out HDL.out (Nat.le_trans HB.out HWZ.out) bd bd HNE.out HNE.out HLT.out HLT.out ?_
        intro A7 k7 w7 hown7 hk7 hx1 hx2 hx3
        clear hx1 hx2 hx3
        have HS8 := Lib.hid (HSK.out _ _ _ _ HS7.out HST7.out.row.ops hk7)
        refine hK.out _ _ HS8.out (fun _ => ?_)
        clear hK K
        have HB7 := Lib.hid (HOB.out w7 hk7)
        have HOW7 := Lib.hid hown7
        have HK7 := Lib.hid hk7
        clear hown7 hk7
        try simp only [Act.put, List.setIfInBounds_toArray, List.set_cons_zero, List.set_cons_succ]
        refine wpAnyH_ready (rs := [10]) (by kernel_rfl) (by simp) ?_
        refine AllReadyH.cons rfl (fun K hK => ?_) AllReadyH.nil
        go_simp
        refine hK.out _ _ HS8.out (fun _ => ?_)
        clear hK K
        try simp only [Act.put, List.setIfInBounds_toArray, List.set_cons_zero, List.set_cons_succ]
        refine wpAnyH_ready (rs := [11]) (by kernel_rfl) (by simp) ?_
        refine AllReadyH.cons rfl (fun K hK => ?_) AllReadyH.nil
        go_simp
        refine hK.out _ _ HS8.out (fun _ => ?_)
        clear hK K
        try simp only [Act.put, List.setIfInBounds_toArray, List.set_cons_zero, List.set_cons_succ]
        refine wpAnyH_ready (rs := [12]) (by kernel_rfl) (by simp) ?_
        refine AllReadyH.cons rfl (fun K hK => ?_) AllReadyH.nil
        have q5 := obj_cell HB7.out (i := 5) rfl
        have z5 := obj_free (i := 5) HB7.out
        go_simp
        refine hK.out _ _ (HNB.out _ HS8.out _ HB7.out) (fun _ => ?_)
        clear hK K q5 z5
        try simp only [Act.put, List.setIfInBounds_toArray, List.set_cons_zero, List.set_cons_succ]
        refine wpAnyH_done (by kernel_rfl) ?_ _
        have hown8 : OO w7 B (.slice A7 (nd + 1) k7) (D ++ (G ++ [⟨4, f.name, ⟨#[]⟩, 0⟩])) := by
          rw [← List.append_assoc]
          exact HOW7.out
        have hfin := HST7.out.did HB.out HWZ.out hown8 HK7.out
        rw [← HE.out.1, ← HE.out.2] at hfin
        have HG7 := Lib.hid (HG5.out.trans (HGD.out.alloc (.cells #[.int .i64 4, .string f.name, .string ⟨#[]⟩, .int .i64 0] 72)))
        refine ⟨((((ko_gr HG7.out).trans (ko_own HST7.out.row.ops HK7.out)).trans (KeepsOthers.setCell _ _ _)).from _), ?_, _, _, hfin⟩
        have hz := (Array.getElem?_eq_some_iff.1 HST.out.o3).1
        have hbne : w.heap.size + 2 ≠ bd := fun e => by
          have h1 := HST.out.o3
          rw [e, HST.out.row.obj] at h1
          cases h1
        refine kepts HG7.out HK7.out hz (own_ne_obj HST7.out.row.ops HST7.out.o3 (by decide)) hbne (fun p e => ?_)
        subst e
        have h1 := HFB.out p.block rfl
        refine ⟨Nat.lt_trans (Nat.lt_of_lt_of_le h1 (Nat.le_add_right _ 2)) hz, own_types HST7.out.row.files HST7.out.row.ops (by decide) rfl, fun e => own_ne_obj HST7.out.row.files HST7.out.row.obj (by decide) (by rw [← e]; rfl)⟩
  case done =>
    rintro Dx ys W hD rfl ⟨vU, vD', st⟩ hK
    obtain ⟨e1, e2⟩ := usedR_all (L := L) (T := T) (g := g) HN.out
    rw [e1, e2] at st
    have HST := Lib.hid st
    have HK := Lib.hid hK
    have HD := Lib.hid (show B ≤ Dx from Nat.le_trans (Nat.le_trans HB.out (Nat.le_trans (Nat.le_add_right _ 2) (Nat.le_of_lt HBlt.out))) hD)
    have HWZ : Hid (w.heap.size ≤ W.heap.size) := Lib.hid (Nat.le_trans (Nat.le_add_right _ 2) (Nat.le_of_lt (Array.getElem?_eq_some_iff.1 st.o3).1))
    have HRV := Lib.hid (reverse_any vU (keptF L T g).reverse w.heap.size W st.used (by
      have h1 : (keptF L T g).reverse.length ≤ L.length := by
        rw [List.length_reverse]
        unfold keptF
        exact List.length_filter_le _ _
      have h2 := HN.out
      have h3 : (D.length + N + 1) * 48 ≤ 140737488355328 := hpl
      omega))
    have p1 := obj_cell st.o1 (i := 0) rfl
    have p2 := obj_cell st.o2 (i := 0) rfl
    obtain ⟨AU, nU, cU, rfl⟩ : ∃ A n c, vU = .slice A n c := by
      obtain ⟨A, c, h, -, -⟩ := own_form st.used
      exact ⟨A, _, c, h⟩
    clear st hK hD e1 e2
    gi_wp2_with fail
    refine ⟨trivial, ?_⟩
    refine (callsIn_wide.2 HRV.out).mono ?_
    rintro e w6 ⟨rfl, hown6, hk6⟩
    have st6 := HST.out.turn HB.out HWZ.out HFB.out (by rw [List.reverse_reverse] at hown6; exact hown6) hk6
    have HST6 := Lib.hid st6
    have HK6 := Lib.hid ((ko_own HST.out.used hk6).same Dx _ HK.out rfl)
    have p1 := obj_cell st6.o1 (i := 0) rfl
    have p2 := obj_cell st6.o2 (i := 0) rfl
    have d0 := obj_cell st6.row.obj (i := 0) rfl
    have zd := obj_free (i := 0) st6.row.obj
    clear st6 hown6 hk6 HRV
    gi_wp2_with fail
    obtain ⟨hK7, hF⟩ := HST6.out.fin HB.out HD.out HK6.out rfl
    refine ⟨by simp, .inl ⟨_, _, rfl, run_takeDeferred hK7, ?_⟩⟩
    refine ⟨.tuple #[], by simp [results, Tryz.f73, go_sem], rfl, ⟨_, _, (hF _).1⟩, (hF _).2⟩
  case stop =>
    rintro D c pre W hD _ h hK
    exact h.elim
end Go.Proofs.YtlnhbndghnkfmaaGreatDoor
