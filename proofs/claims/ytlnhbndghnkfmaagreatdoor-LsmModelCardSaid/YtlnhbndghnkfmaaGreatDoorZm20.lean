/- Walks: a store as new memory, the program's Copy. Drafts: files whose bytes lie in rows of the call's own. -/
import Derived.Test.YtlnhbndghnkfmaaGreatDoorZm19
import Derived.Test.YtlnhbndghnkfmaaGreatDoorZm12
import Derived.Lib.AppendStr
import Derived.Laws.MakeOwn
namespace Go.Proofs.YtlnhbndghnkfmaaGreatDoor
open Go.RowKit

def RetStrs (T : List ByteArray) (w : World) (e : Ending) (w' : World) : Prop := ∃ v, e = .returned v ∧ SO w' w.heap.size v T ∧ Gr w w'
set_option maxRecDepth 100000 in
theorem sclones_any (v : Value) (T : List ByteArray) (w : World) (hv : SV w v T) (hlen : T.length * 16 ≤ 140737488355328) :
    Calls Tryz.prog 65 #[v] w fun e w' => RetStrs T w e w' := by
  obtain ⟨A, c, hva, l1, ⟨_, l2⟩, l3⟩ := id hv
  have HV := Lib.hid hv
  subst hva
  clear hv
  cases A with
  | none =>
    have hn0 : T.length = 0 := by
      rcases Nat.eq_zero_or_pos T.length with h | h
      · exact h
      · obtain ⟨b, off, hh, _⟩ := l3 0 h
        cases hh
    have hL : T = [] := List.length_eq_zero_iff.1 hn0
    have hc0 := l2 rfl
    subst hL hc0
    clear l1 l2 l3 hn0
    have he : ∀ w : World, (binOp .eql 28 (.slice none 0 0) (.slice none 0 0)).run Tryz.prog w = .ok (.bool true) w := fun w => Lib.run_eql_slice_nil w 28 9 none 0 0 0 0 Tryz.underlying28
    go_enter Tryz.func65, Tryz.ntmps65
    go_wp2
    go_ret
    exact ⟨_, rfl, SO.nil _ _, Gr.refl _⟩
  | some ad =>
    obtain ⟨n, hn⟩ : ∃ n, n = T.length := ⟨_, rfl⟩
    have HN := Lib.hid hn
    rw [← hn] at HV ⊢
    have hz : (0 + n) * 16 ≤ 140737488355328 := by omega
    clear l1 l2 l3 hn hlen
    have he : ∀ w : World, (binOp .eql 28 (.slice (some ad) n c) (.slice none 0 0)).run Tryz.prog w = .ok (.bool false) w := fun w => Lib.run_eql_slice_nil w 28 9 (some ad) n c 0 0 Tryz.underlying28
    go_enter Tryz.func65, Tryz.ntmps65
    go_wp2_with (at_builtin; refine wpList_push_n (w0 := w) rfl (.tmp 5) (.tmp 6) rfl (.slice (some ⟨w.heap.size, 0, none⟩) 0 0) (.slice (some ad) n c) [] T 0 n rfl HN.out rfl (own_none w 9 1) rfl (HV.out.gr (gr_box _ _)) hz (gr_box _ _) ?_)
    intro A' c' w1 hown g1
    have HO := Lib.hid hown
    clear hown
    go_wp2
    go_ret
    exact ⟨_, rfl, HO.out, g1⟩
section
variable {w : World} {B g n c : Nat} {L : List ByteArray}
theorem SO.len (h : SO w B (.slice (some ⟨g, 0, none⟩) n c) L) : n = L.length ∧ L.length ≤ c ∧ c ≤ 9223372036854775807 ∧ B ≤ g ∧ g < w.heap.size := by
  rcases h.2 with ⟨hh, _⟩ | ⟨g', cap', cur, hh, hb, hg, hn, hm, _⟩
  · cases hh
  · injection hh with h1 h2 h3
    injection h1 with h1
    injection h1 with h1
    subst h1 h2 h3
    exact ⟨rfl, hn, hm, hb, (Array.getElem?_eq_some_iff.1 hg).1⟩
theorem SO.free (h : SO w B (.slice (some ⟨g, 0, none⟩) n c) L) (j : Nat) : w.frozen? ⟨g, j, none⟩ = false := by
  obtain ⟨rfl, _⟩ := h.len
  exact h.frozenAt j
theorem SO.addr {v : Value} (h : SO w B v L) {i : Nat} (hi : i < L.length) : ∃ g c, v = .slice (some ⟨g, 0, none⟩) L.length c := by
  obtain ⟨g, c, hv, _⟩ := World.ownsRow.form h (by omega)
  exact ⟨g, c, hv⟩
theorem SO.at_ (h : SO w B (.slice (some ⟨g, 0, none⟩) n c) L) {i : Nat} (hi : i < L.length) : w.cell? ⟨g, i, none⟩ = some (.string L[i]) := by
  obtain ⟨A, c', hv, _, _, hc⟩ := h.sv
  obtain ⟨b, off, ha, q⟩ := hc i hi
  injection hv with e1
  rw [← e1] at ha
  injection ha with ha
  injection ha with a1 a2
  subst a1 a2
  rw [Nat.zero_add] at q
  exact q
theorem SO.same (h : SO w B (.slice (some ⟨g, 0, none⟩) n c) L) {i : Nat} (hi : i < L.length) : SO (w.setCell ⟨g, i, none⟩ (.string L[i])) B (.slice (some ⟨g, 0, none⟩) n c) L := by
  obtain ⟨rfl, _⟩ := h.len
  obtain ⟨h1, _⟩ := h.stored i (.string L[i])
  have e : (L.map Value.string).set i (.string L[i]) = L.map Value.string := by
    have : (Value.string L[i]) = (L.map Value.string)[i]'(by simpa using hi) := by simp
    rw [this]
    exact List.set_getElem_self _
  rw [e] at h1
  exact h1
end
/-- The block of a store's box. -/
def StBox (w : World) (bx : Nat) (vF vM vT : Value) (g m : Nat) : Prop := w.heap[bx]? = some (.cells #[vF, vM, vT, .int .i64 (g : Int), .int .i64 (m : Int)] 30 (0, 0))
/-- While a store is copied: its box, the result's block, its rows. -/
def CSt (L : List F) (M : List CR) (T : List ByteArray) (g m : Nat) (vF vM vT : Value) (bx : Nat) (w w' : World) : Prop :=
  StBox w' bx vF vM vT g m ∧ w'.heap[bx + 1]? = some (.cells #[.slice none 0 0, .slice none 0 0, .slice none 0 0, .int .i64 0, .int .i64 0] 30 (0, 0)) ∧ FO w' w.heap.size vF L ∧ CO w' w.heap.size vM M ∧ SO w' w.heap.size vT T ∧ Gr w w'
theorem CSt.gr {L : List F} {M : List CR} {T : List ByteArray} {g m : Nat} {vF vM vT : Value} {bx : Nat} {w w1 w2 : World} (h : CSt L M T g m vF vM vT bx w w1) (q : Gr w1 w2) : CSt L M T g m vF vM vT bx w w2 := by
  obtain ⟨h1, h2, h3, h4, h5, h6⟩ := h
  exact ⟨gr_obj q h1, gr_obj q h2, h3.gr q, h4.gr q, h5.gr q, h6.trans q⟩
theorem CSt.put {L : List F} {M : List CR} {T : List ByteArray} {g m : Nat} {vF vM : Value} {bx gt n c k : Nat} {w w1 : World} (h : CSt L M T g m vF vM (.slice (some ⟨gt, 0, none⟩) n c) bx w w1) (hk : k < T.length) {s : ByteArray} (hs : s = T[k]) :
    CSt L M T g m vF vM (.slice (some ⟨gt, 0, none⟩) n c) bx w (w1.setCell ⟨gt, k, none⟩ (.string s)) := by
  obtain ⟨h1, h2, h3, h4, h5, h6⟩ := h
  subst hs
  have hb : w.heap.size ≤ gt := h5.len.2.2.2.1
  have hkp : Kp (some gt) w1 (w1.setCell ⟨gt, k, none⟩ (.string T[k])) := (Kp.refl _ _).set (.inr rfl) _ _
  have e1 : (Value.slice (some ⟨gt, 0, none⟩) n c).ownBlock = some gt := rfl
  have n1 : some gt ≠ some bx := by rw [← e1]; exact own_ne_obj h5 h1 (by decide)
  have n2 : some gt ≠ some (bx + 1) := by rw [← e1]; exact own_ne_obj h5 h2 (by decide)
  exact ⟨kp_obj hkp h1 n1, kp_obj hkp h2 n2, own_past h3 h5 (by decide) hkp, own_past h4 h5 (by decide) hkp, h5.same hk, Below.setCell h6 (p := ⟨gt, k, none⟩) hb _⟩
/-- A copy's answer. -/
def RetStore (L : List F) (M : List CR) (T : List ByteArray) (g m : Nat) (w : World) (e : Ending) (w' : World) : Prop :=
  ∃ vF vM vT, e = .returned (stval vF vM vT g m) ∧ FO w' w.heap.size vF L ∧ CO w' w.heap.size vM M ∧ SO w' w.heap.size vT T ∧ Gr w w'
/-- A block of cells of this type, none of them frozen. -/
def BoxAt (w : World) (b t : Nat) : Prop := ∃ cs, w.heap[b]? = some (.cells cs t (0, 0))
theorem BoxAt.set {w : World} {b t : Nat} (h : BoxAt w b t) (b' i : Nat) (v : Value) : BoxAt (w.setCell ⟨b', i, none⟩ v) b t := by
  obtain ⟨cs, h⟩ := h
  by_cases e : b = b'
  · subst e
    exact ⟨_, set_obj h v⟩
  · exact ⟨_, set_obj_other h e v⟩
theorem own_box {w : World} {B size n : Nat} {t t' : TypeId} {u : Value} {xs : List Value} {b : Nat} (h : w.ownsRow B t size u n xs) (ho : BoxAt w b t') (ht : t ≠ t') (i : Nat) (v : Value) : (w.setCell ⟨b, i, none⟩ v).ownsRow B t size u n xs := by
  obtain ⟨cs, ho⟩ := ho
  exact own_set_obj h ho ht v
/-- Behind five stores into a store's block. -/
def five (w : World) (b : Nat) (v0 v1 v2 v3 v4 : Value) : World := ((((w.setCell ⟨b, 0, none⟩ v0).setCell ⟨b, 1, none⟩ v1).setCell ⟨b, 2, none⟩ v2).setCell ⟨b, 3, none⟩ v3).setCell ⟨b, 4, none⟩ v4
theorem own_five {w : World} {B size n : Nat} {t t' : TypeId} {u : Value} {xs : List Value} {b : Nat} (h : w.ownsRow B t size u n xs) (ho : BoxAt w b t') (ht : t ≠ t') (v0 v1 v2 v3 v4 : Value) : (five w b v0 v1 v2 v3 v4).ownsRow B t size u n xs :=
  own_box (own_box (own_box (own_box (own_box h ho ht 0 v0) (ho.set _ _ _) ht 1 v1) ((ho.set _ _ _).set _ _ _) ht 2 v2) (((ho.set _ _ _).set _ _ _).set _ _ _) ht 3 v3) ((((ho.set _ _ _).set _ _ _).set _ _ _).set _ _ _) ht 4 v4
theorem gr_five {w0 w : World} {b : Nat} (h : Gr w0 w) (hb : w0.heap.size ≤ b) (v0 v1 v2 v3 v4 : Value) : Gr w0 (five w b v0 v1 v2 v3 v4) :=
  Below.setCell (Below.setCell (Below.setCell (Below.setCell (Below.setCell h (p := ⟨b, 0, none⟩) hb v0) (p := ⟨b, 1, none⟩) hb v1) (p := ⟨b, 2, none⟩) hb v2) (p := ⟨b, 3, none⟩) hb v3) (p := ⟨b, 4, none⟩) hb v4
/-- While a name of the list is copied. -/
abbrev StC (bx gt k : Nat) (vT : Value) (s : ByteArray) (w' : World) : Prop := w'.cell? ⟨bx, 2, none⟩ = some vT ∧ w'.cell? ⟨gt, k, none⟩ = some (.string s) ∧ w'.frozen? ⟨gt, k, none⟩ = false
theorem stC_of {L : List F} {M : List CR} {T : List ByteArray} {g m : Nat} {vF vM : Value} {bx gt n c k : Nat} {s : ByteArray} {w w' : World} (h : CSt L M T g m vF vM (.slice (some ⟨gt, 0, none⟩) n c) bx w w') (hk : ∃ h : k < T.length, s = T[k]) : StC bx gt k (.slice (some ⟨gt, 0, none⟩) n c) s w' ∧ CSt L M T g m vF vM (.slice (some ⟨gt, 0, none⟩) n c) bx w w' := by
  obtain ⟨hk, rfl⟩ := hk
  exact ⟨⟨obj_cell h.1 (i := 2) rfl, h.2.2.2.2.1.at_ hk, h.2.2.2.2.1.free k⟩, h⟩
set_option maxRecDepth 100000 in
set_option maxHeartbeats 2000000 in
theorem scopy_any (vF vM vT : Value) (g m : Nat) (L : List F) (M : List CR) (T : List ByteArray) (w : World) (hF : FV w vF L) (hM : CV w vM M) (hT : SV w vT T) (hf : Fit L) (hFl : L.length * 48 ≤ 140737488355328) (hMl : M.length * 40 ≤ 140737488355328) (hTl : T.length * 16 ≤ 140737488355328)
    (hMm : ∀ c ∈ M, c.key.size ≤ 281474976710656 ∧ c.val.size ≤ 281474976710656) (hTm : ∀ s ∈ T, s.size ≤ 281474976710656) :
    Calls Tryz.prog 26 #[stval vF vM vT g m] w fun e w' => RetStore L M T g m w e w' := by
  have H1 := Lib.hid (fun w1 (q : Gr w w1) => copy_any vF L w1 (hF.gr q) hf hFl)
  have H2 := Lib.hid (fun w1 (q : CV w1 vM M) => copied_any vM M w1 q hMl hMm)
  have H3 := Lib.hid (fun w1 (q : SV w1 vT T) => sclones_any vT T w1 q hTl)
  have HTM := Lib.hid hTm
  have HCV := Lib.hid hM
  have HSV := Lib.hid hT
  obtain ⟨AF, nF, cF, rfl⟩ : ∃ A n c, vF = .slice A n c := by
    obtain ⟨A, c, h, _⟩ := hF
    exact ⟨A, _, c, h⟩
  obtain ⟨AM, nM, cM, rfl⟩ : ∃ A n c, vM = .slice A n c := by
    obtain ⟨A, c, h, _⟩ := hM
    exact ⟨A, _, c, h⟩
  obtain ⟨AT, nT, cT, rfl⟩ : ∃ A n c, vT = .slice A n c := by
    obtain ⟨A, c, h, _⟩ := hT
    exact ⟨A, _, c, h⟩
  clear hF hM hT hf hFl hMl hTl hMm hTm
  unfold stval
  obtain ⟨W, hW⟩ : ∃ W, W = (w.alloc (.cells #[.slice AF nF cF, .slice AM nM cM, .slice AT nT cT, .int .i64 (g : Int), .int .i64 (m : Int)] 30)).alloc (.cells #[.slice none 0 0, .slice none 0 0, .slice none 0 0, .int .i64 0, .int .i64 0] 30) := ⟨_, rfl⟩
  have hgW : Gr w W := by rw [hW]; exact (gr_box _ _).alloc _
  have hX : StBox W w.heap.size (.slice AF nF cF) (.slice AM nM cM) (.slice AT nT cT) g m := by
    unfold StBox
    rw [hW]
    exact gr_obj (gr_box _ _) (heap_alloc_new w _)
  have hR : W.heap[w.heap.size + 1]? = some (.cells #[.slice none 0 0, .slice none 0 0, .slice none 0 0, .int .i64 0, .int .i64 0] 30 (0, 0)) := by
    rw [hW]
    have := heap_alloc_new (w.alloc (.cells #[.slice AF nF cF, .slice AM nM cM, .slice AT nT cT, .int .i64 (g : Int), .int .i64 (m : Int)] 30)) (.cells #[.slice none 0 0, .slice none 0 0, .slice none 0 0, .int .i64 0, .int .i64 0] 30)
    simpa using this
  go_enter Tryz.func26, Tryz.ntmps26
  go_wp2_with fail
  rw [← hW]
  have hxl : w.heap.size < W.heap.size := (Array.getElem?_eq_some_iff.1 hX).1
  have hBle : w.heap.size ≤ w.heap.size := Nat.le_refl _
  clear hW
  -- the disk
  refine (H1.out _ hgW).mono ?_
  rintro e w1 ⟨v1, rfl, ho1, g1⟩
  obtain ⟨A1, k1, rfl, -, -⟩ := own_form ho1
  have hX1 : StBox w1 w.heap.size (.slice AF nF cF) (.slice AM nM cM) (.slice AT nT cT) g m := gr_obj g1 hX
  have hR1 := gr_obj g1 hR
  have c0 := obj_cell hX1 (i := 0) rfl
  have c1 := obj_cell hX1 (i := 1) rfl
  have f0 := obj_free (i := 0) hX1
  have hO1 := ho1.le hgW.size
  obtain ⟨W2, hW2⟩ : ∃ W, W = w1.setCell ⟨w.heap.size, 0, none⟩ (.slice A1 L.length k1) := ⟨_, rfl⟩
  have hX2 : StBox W2 w.heap.size (.slice A1 L.length k1) (.slice AM nM cM) (.slice AT nT cT) g m := by rw [hW2]; exact set_obj hX1 _
  have hR2 : W2.heap[w.heap.size + 1]? = some (.cells #[.slice none 0 0, .slice none 0 0, .slice none 0 0, .int .i64 0, .int .i64 0] 30 (0, 0)) := by rw [hW2]; exact set_obj_other hR1 (by omega) _
  have hF2 : FO W2 w.heap.size (.slice A1 L.length k1) L := by rw [hW2]; exact own_set_obj hO1 hX1 (by decide) _
  have hg2 : Gr w W2 := by rw [hW2]; exact Below.setCell (hgW.trans g1) (p := ⟨w.heap.size, 0, none⟩) hBle _
  go_wp2_with fail
  rw [← hW2]
  clear hW2 c0 c1 f0 hX1 hR1 hO1 ho1 g1 hX hR hgW
  -- Mem
  refine (H2.out _ (HCV.out.gr hg2)).mono ?_
  rintro e w3 ⟨v3, rfl, ho3, g3⟩
  obtain ⟨A3, k3, rfl, -, -⟩ := own_form ho3
  have hX3 : StBox w3 w.heap.size (.slice A1 L.length k1) (.slice AM nM cM) (.slice AT nT cT) g m := gr_obj g3 hX2
  have hR3 := gr_obj g3 hR2
  have hF3 := hF2.gr g3
  have c1 := obj_cell hX3 (i := 1) rfl
  have c2 := obj_cell hX3 (i := 2) rfl
  have f1 := obj_free (i := 1) hX3
  have hO3 := ho3.le hg2.size
  obtain ⟨W4, hW4⟩ : ∃ W, W = w3.setCell ⟨w.heap.size, 1, none⟩ (.slice A3 M.length k3) := ⟨_, rfl⟩
  have hX4 : StBox W4 w.heap.size (.slice A1 L.length k1) (.slice A3 M.length k3) (.slice AT nT cT) g m := by rw [hW4]; exact set_obj hX3 _
  have hR4 : W4.heap[w.heap.size + 1]? = some (.cells #[.slice none 0 0, .slice none 0 0, .slice none 0 0, .int .i64 0, .int .i64 0] 30 (0, 0)) := by rw [hW4]; exact set_obj_other hR3 (by omega) _
  have hF4 : FO W4 w.heap.size (.slice A1 L.length k1) L := by rw [hW4]; exact own_set_obj hF3 hX3 (by decide) _
  have hM4 : CO W4 w.heap.size (.slice A3 M.length k3) M := by rw [hW4]; exact own_set_obj hO3 hX3 (by decide) _
  have hg4 : Gr w W4 := by rw [hW4]; exact Below.setCell (hg2.trans g3) (p := ⟨w.heap.size, 1, none⟩) hBle _
  go_wp2_with fail
  rw [← hW4]
  clear hW4 c1 c2 f1 hX3 hR3 hO3 ho3 g3 hX2 hR2 hF2 hF3 hg2
  -- Tables
  refine (H3.out _ (HSV.out.gr hg4)).mono ?_
  rintro e w5 ⟨v5, rfl, ho5, g5⟩
  obtain ⟨A5, k5, rfl, hk5, hk6⟩ := own_form ho5
  obtain ⟨nt, hnt⟩ : ∃ n, n = T.length := ⟨_, rfl⟩
  have HNT := Lib.hid hnt
  rw [← hnt] at hk5 ho5 ⊢
  clear hnt
  have hX5 : StBox w5 w.heap.size (.slice A1 L.length k1) (.slice A3 M.length k3) (.slice AT nT cT) g m := gr_obj g5 hX4
  have hR5 := gr_obj g5 hR4
  have hF5 := hF4.gr g5
  have hM5 := hM4.gr g5
  have c2 := obj_cell hX5 (i := 2) rfl
  have f2 := obj_free (i := 2) hX5
  have hO5 := ho5.le hg4.size
  obtain ⟨W6, hW6⟩ : ∃ W, W = w5.setCell ⟨w.heap.size, 2, none⟩ (.slice A5 nt k5) := ⟨_, rfl⟩
  have hX6 : StBox W6 w.heap.size (.slice A1 L.length k1) (.slice A3 M.length k3) (.slice A5 nt k5) g m := by rw [hW6]; exact set_obj hX5 _
  have hR6 : W6.heap[w.heap.size + 1]? = some (.cells #[.slice none 0 0, .slice none 0 0, .slice none 0 0, .int .i64 0, .int .i64 0] 30 (0, 0)) := by rw [hW6]; exact set_obj_other hR5 (by omega) _
  have hF6 : FO W6 w.heap.size (.slice A1 L.length k1) L := by rw [hW6]; exact own_set_obj hF5 hX5 (by decide) _
  have hM6 : CO W6 w.heap.size (.slice A3 M.length k3) M := by rw [hW6]; exact own_set_obj hM5 hX5 (by decide) _
  have hT6 : SO W6 w.heap.size (.slice A5 nt k5) T := by rw [hW6]; exact own_set_obj hO5 hX5 (by decide) _
  have hg6 : Gr w W6 := by rw [hW6]; exact Below.setCell (hg4.trans g5) (p := ⟨w.heap.size, 2, none⟩) hBle _
  have HC6 : Hid (CSt L M T g m (.slice A1 L.length k1) (.slice A3 M.length k3) (.slice A5 nt k5) w.heap.size w W6) := Lib.hid ⟨hX6, hR6, hF6, hM6, hT6, hg6⟩
  have d2 := obj_cell hX6 (i := 2) rfl
  go_upto_region 4 with (fail)
  rw [← hW6]
  clear hW6 c2 f2 hX5 hR5 hO5 ho5 g5 hX4 hR4 hF4 hF5 hM4 hM5 hg4 hX6 hR6 hF6 hM6 hT6 hg6
  go_wp2_with fail
  clear d2
  go_loopg [20] (nt + 1) (fun kx s20 wr => ∃ k : Nat, s20 = .int .i64 (k : Int) ∧ k ≤ nt ∧ nt - k ≤ kx ∧ Hid (CSt L M T g m (.slice A1 L.length k1) (.slice A3 M.length k3) (.slice A5 nt k5) w.heap.size w wr))
  case atStart => exact ⟨0, rfl, Nat.zero_le _, by omega, HC6⟩
  case round =>
    clear HC6
    obtain ⟨k, rfl, hk, hkx, HC⟩ := hrel
    by_cases hlt : k < nt
    · have hkT : k < T.length := by rw [← HNT.out]; exact hlt
      obtain ⟨gt, cc, hvv⟩ := HC.out.2.2.2.2.1.addr hkT
      injection hvv with h1 h2 h3
      subst h1 h3
      clear h2
      have hsz := HTM.out _ (List.getElem_mem hkT)
      obtain ⟨s, hs⟩ : ∃ s, s = T[k] := ⟨_, rfl⟩
      have HSK : Hid (∃ h : k < T.length, s = T[k]) := Lib.hid ⟨hkT, hs⟩
      have HS := Lib.hid (stC_of HC.out HSK.out)
      rw [← hs] at hsz
      have HK := Lib.hid (clone_any s hsz)
      have c3 := HS.out.1.2.1
      have t0 : (0 : Int) ≤ (k : Int) := by omega
      have t1 : (k : Int) < (nt : Int) := by omega
      clear hsz hs
      go_wp2_with fail
      clear c3
      go_region_held3 (fun w' => StC w.heap.size gt k (.slice (some ⟨gt, 0, none⟩) nt k5) s w' ∧ CSt L M T g m (.slice A1 L.length k1) (.slice A3 M.length k3) (.slice (some ⟨gt, 0, none⟩) nt k5) w.heap.size w w')
        (first
          | exact HS.out
          | (refine stC_of (CSt.gr ?_ (Gr.refl _).drew) HSK.out; with_reducible exact HS.out.2)
          | (refine stC_of (CSt.gr ?_ hb) HSK.out; exact (‹StC _ _ _ _ _ _ ∧ _›).2)
          | (refine stC_of (CSt.put ?_ HSK.out.1 HSK.out.2) HSK.out; exact (‹StC _ _ _ _ _ _ ∧ _›).2))
        (first
          | (go_at_call 66; with_reducible refine (HK.out _).mono ?_; rintro e w4 ⟨rfl, hb⟩))
      all_goals
        have HT := Lib.hid (‹StC w.heap.size gt k _ s (World.setCell _ _ _) ∧ _›).2
        clear ‹StC w.heap.size gt k _ s (World.setCell _ _ _) ∧ _›
        go_wp2
        go_roundg (nt - (k + 1))
        case measure => omega
        case rel => exact ⟨k + 1, by go_num, by omega, Nat.le_refl _, HT⟩
    · obtain ⟨hX, hR, hF, hM, hT, hg⟩ := HC.out
      have c0 := obj_cell hX (i := 0) rfl
      have c1 := obj_cell hX (i := 1) rfl
      have c2 := obj_cell hX (i := 2) rfl
      have c3 := obj_cell hX (i := 3) rfl
      have c4 := obj_cell hX (i := 4) rfl
      have r0 := obj_cell hR (i := 0) rfl
      have r1 := obj_cell hR (i := 1) rfl
      have r2 := obj_cell hR (i := 2) rfl
      have r3 := obj_cell hR (i := 3) rfl
      have r4 := obj_cell hR (i := 4) rfl
      have z0 := obj_free (i := 0) hR
      have z1 := obj_free (i := 1) hR
      have z2 := obj_free (i := 2) hR
      have z3 := obj_free (i := 3) hR
      have z4 := obj_free (i := 4) hR
      have HFIN : Hid (FO (five wr (w.heap.size + 1) (.slice A1 L.length k1) (.slice A3 M.length k3) (.slice A5 nt k5) (.int .i64 (g : Int)) (.int .i64 (m : Int))) w.heap.size (.slice A1 L.length k1) L ∧ CO (five wr (w.heap.size + 1) (.slice A1 L.length k1) (.slice A3 M.length k3) (.slice A5 nt k5) (.int .i64 (g : Int)) (.int .i64 (m : Int))) w.heap.size (.slice A3 M.length k3) M ∧ SO (five wr (w.heap.size + 1) (.slice A1 L.length k1) (.slice A3 M.length k3) (.slice A5 nt k5) (.int .i64 (g : Int)) (.int .i64 (m : Int))) w.heap.size (.slice A5 nt k5) T ∧ Gr w (five wr (w.heap.size + 1) (.slice A1 L.length k1) (.slice A3 M.length k3) (.slice A5 nt k5) (.int .i64 (g : Int)) (.int .i64 (m : Int)))) := Lib.hid
        ⟨own_five hF ⟨_, hR⟩ (by decide) _ _ _ _ _, own_five hM ⟨_, hR⟩ (by decide) _ _ _ _ _, own_five hT ⟨_, hR⟩ (by decide) _ _ _ _ _, gr_five hg (Nat.le_succ _) _ _ _ _ _⟩
      clear hX hR hF hM hT hg HC
      unfold five at HFIN
      go_wp2_with fail
      refine bodyPost_ret (v := stval (.slice A1 L.length k1) (.slice A3 M.length k3) (.slice A5 nt k5) g m) (by unfold stval; simp [results, Tryz.results26, go_sem, r0, r1, r2, r3, r4]) rfl ⟨_, _, _, rfl, HFIN.out.1, HFIN.out.2.1, HFIN.out.2.2.1, HFIN.out.2.2.2⟩
end Go.Proofs.YtlnhbndghnkfmaaGreatDoor
namespace Go.Proofs.YtlnhbndghnkfmaaGreatDoor
open Go.RowKit

/-- A file, and the slice that holds its bytes. -/
abbrev FB := F × Value
def dcell (p : FB) : List Value := [.string p.1.name, p.2, .int .i64 (p.1.kept.size : Int)]
theorem dcell_len (p : FB) : (dcell p).length = 3 := rfl
def dcells (M : List FB) : List Value := M.flatMap dcell
theorem dcells_len (M : List FB) : (dcells M).length = M.length * 3 := rows_len dcell 3 dcell_len M
def bcells (f : F) : List Value := Lib.strCells f.kept ++ Lib.strCells f.loose
theorem bcells_len (f : F) : (bcells f).length = f.size := by
  unfold bcells F.size
  rw [List.length_append, Lib.strCells_length, Lib.strCells_length]
def files (M : List FB) : List F := M.map Prod.fst
theorem files_len (M : List FB) : (files M).length = M.length := by unfold files; rw [List.length_map]
theorem files_at {M : List FB} {i : Nat} (h : i < M.length) : (files M)[i]'(by rw [files_len]; exact h) = M[i].1 := by unfold files; rw [List.getElem_map]
/-- No two of them share a row. -/
def Sep (M : List FB) : Prop := M.Pairwise fun a b => ∀ g, a.2.ownBlock = some g → b.2.ownBlock ≠ some g
/-- The bytes of a file lie in this slice. -/
def BO (w : World) (B : Nat) (p : FB) : Prop := w.ownsRow B 5 1 p.2 p.1.size (bcells p.1)
def RO (w : World) (B : Nat) (v : Value) (M : List FB) : Prop := w.ownsRow B 202 3 v M.length (dcells M)
structure DR (w : World) (B : Nat) (v : Value) (M : List FB) : Prop where
  row : RO w B v M
  bytes : ∀ p ∈ M, BO w B p
  sep : Sep M
theorem BO.gr {w w' : World} {B : Nat} {p : FB} (h : BO w B p) (g : Gr w w') : BO w' B p := own_gr h g
theorem DR.gr {w w' : World} {B : Nat} {v : Value} {M : List FB} (h : DR w B v M) (g : Gr w w') : DR w' B v M :=
  ⟨own_gr h.row g, fun p hp => (h.bytes p hp).gr g, h.sep⟩
theorem DR.le {w : World} {B B' : Nat} {v : Value} {M : List FB} (h : DR w B v M) (hb : B' ≤ B) : DR w B' v M :=
  ⟨own_le h.row hb, fun p hp => own_le (h.bytes p hp) hb, h.sep⟩

section
variable {w : World} {B : Nat} {t : TypeId} {g n c : Nat} {xs : List Value}
theorem own_put3 {α : Type} {f : α → List Value} (hf : ∀ x, (f x).length = 3) {L : List α} (h : w.ownsRow B t 3 (.slice (some ⟨g, 0, none⟩) n c) n (L.flatMap f)) {i : Nat} (hi : i < L.length) {y : α} {a b d : Value} (hy : f y = [a, b, d]) :
    (((w.setCell ⟨g, i * 3, none⟩ a).setCell ⟨g, i * 3 + 1, none⟩ b).setCell ⟨g, i * 3 + 2, none⟩ d).ownsRow B t 3 (.slice (some ⟨g, 0, none⟩) n c) n ((L.set i y).flatMap f) := by
  have h1 := (((h.stored (i * 3) a).1.stored (i * 3 + 1) b).1.stored (i * 3 + 2) d).1
  have e : (((L.flatMap f).set (i * 3) a).set (i * 3 + 1) b).set (i * 3 + 2) d = (L.set i y).flatMap f := by
    apply List.ext_getElem?
    intro j
    by_cases hj : j < L.length * 3
    · have hq : j / 3 < L.length := by omega
      have hr := Nat.mod_lt j (show 0 < 3 by decide)
      have hd : j / 3 * 3 + j % 3 = j := by omega
      have hs : ((L.set i y).flatMap f)[j]? = (f ((L.set i y)[j / 3]'(by rw [List.length_set]; exact hq)))[j % 3]? := by
        rw [← rows_at f 3 hf (L.set i y) (j / 3) (j % 3) (by rw [List.length_set]; exact hq) hr, hd]
      have ho : (L.flatMap f)[j]? = (f L[j / 3])[j % 3]? := by rw [← rows_at f 3 hf L (j / 3) (j % 3) hq hr, hd]
      have hlen : (L.flatMap f).length = L.length * 3 := rows_len f 3 hf L
      rw [hs, List.getElem?_set, List.getElem?_set, List.getElem?_set]
      simp only [List.length_set, hlen]
      by_cases e2 : i * 3 + 2 = j
      · rw [if_pos e2, if_pos (by omega)]
        have : j / 3 = i := by omega
        have hm : j % 3 = 2 := by omega
        simp only [this, hm, List.getElem_set_self, hy]
        rfl
      · rw [if_neg e2]
        by_cases e1 : i * 3 + 1 = j
        · rw [if_pos e1, if_pos (by omega)]
          have : j / 3 = i := by omega
          have hm : j % 3 = 1 := by omega
          simp only [this, hm, List.getElem_set_self, hy]
          rfl
        · rw [if_neg e1]
          by_cases e0 : i * 3 = j
          · rw [if_pos e0, if_pos (by omega)]
            have : j / 3 = i := by omega
            have hm : j % 3 = 0 := by omega
            simp only [this, hm, List.getElem_set_self, hy]
            rfl
          · rw [if_neg e0, ho, List.getElem_set_ne (by omega)]
    · rw [List.getElem?_eq_none, List.getElem?_eq_none]
      · rw [rows_len f 3 hf, List.length_set]; omega
      · rw [List.length_set, List.length_set, List.length_set, rows_len f 3 hf]; omega
  rw [← e]
  exact h1
end
theorem infoDraft : (Tryz.prog.info? 202).map (fun i => (i.zero, i.size, i.bytes)) = some (some (.agg #[.string ⟨#[]⟩, .slice none 0 0, .int .i64 0]), 3, 48) := by kernel_rfl
theorem infoU8 : (Tryz.prog.info? 5).map (fun i => (i.zero, i.size, i.bytes)) = some (some (.int .u8 0), 1, 1) := by kernel_rfl
/-- An empty draft. -/
def z0 : FB := (⟨⟨#[]⟩, ⟨#[]⟩, ⟨#[]⟩⟩, .slice none 0 0)
theorem made_drafts (n : Nat) : (madeCells #[.string ⟨#[]⟩, .slice none 0 0, .int .i64 0] (n * 3)).toList = dcells (List.replicate n z0) := by
  apply List.ext_getElem?
  intro j
  by_cases hj : j < n * 3
  · have hq : j / 3 < n := by omega
    have hr := Nat.mod_lt j (show 0 < 3 by decide)
    have hd : j / 3 * 3 + j % 3 = j := by omega
    have hs : (dcells (List.replicate n z0))[j]? = (dcell z0)[j % 3]? := by
      have := rows_at dcell 3 dcell_len (List.replicate n z0) (j / 3) (j % 3) (by rw [List.length_replicate]; exact hq) hr
      rw [hd, List.getElem_replicate] at this
      exact this
    rw [hs]
    have : (madeCells #[Value.string ⟨#[]⟩, .slice none 0 0, .int .i64 0] (n * 3)).toList[j]? = some (#[Value.string ⟨#[]⟩, .slice none 0 0, .int .i64 0][j % 3]!) := by
      simp [madeCells, hj]
    rw [this]
    match j % 3, hr with
    | 0, _ => rfl
    | 1, _ => rfl
    | 2, _ => rfl
  · rw [List.getElem?_eq_none, List.getElem?_eq_none]
    · rw [dcells_len, List.length_replicate]; omega
    · simp [madeCells]; omega
end Go.Proofs.YtlnhbndghnkfmaaGreatDoor
