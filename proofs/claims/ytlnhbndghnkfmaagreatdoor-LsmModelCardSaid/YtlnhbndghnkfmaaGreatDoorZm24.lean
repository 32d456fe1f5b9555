/- Walks: a draft more: in a new row. Walks: what is written into a draft. Walks: bytes behind a draft's, where there is one. -/
import Derived.Test.YtlnhbndghnkfmaaGreatDoorZm23
namespace Go.Proofs.YtlnhbndghnkfmaaGreatDoor
open Go.RowKit

set_option maxRecDepth 100000 in
theorem grown_zeros {w : World} {B i n g c : Nat} {D : List Value} (h : w.ownsRow B 202 3 (.slice (some ⟨g, 0, none⟩) n c) n D) (hi : i < n) (hroom : c < n + 1) (hbig : (n + 1) * 48 ≤ 140737488355328) :
    ∃ G W1 E, (∀ ty, (Builtin.append_ #[192, 3] ty #[.slice (some ⟨g, 0, none⟩) i c, .int .i64 ((n : Int) + 1 - (i : Int))]).run Tryz.prog w = .ok (.slice (some ⟨w.heap.size, 0, none⟩) (n + 1) G) W1) ∧
      W1.ownsRow w.heap.size 202 3 (.slice (some ⟨w.heap.size, 0, none⟩) (n + 1) G) (n + 1) E ∧ E.take (i * 3) = D.take (i * 3) ∧ Gr w W1 := by
  obtain ⟨i0, hi0, hz0, hz1, hz2⟩ := info_parts infoDraft
  have hp := own_gr (own_prefix h (k := i) (by omega)) (Gr.refl _).drew
  have hl := h.1
  have hold : (Builtin.firstCells i0.size i (.slice (some ⟨g, 0, none⟩) i c)).run Tryz.prog w.drew = .ok (D.take (i * 3)).toArray w.drew := by
    rw [hz1]
    exact run_firstCells_some w.drew 3 i ⟨g, 0, none⟩ i c (D.take (i * 3)) hp.1 (fun j u hj => by
      rw [Go.WideShapes.add_plain, Nat.zero_add]
      have hjl := (List.getElem?_eq_some_iff.1 hj).1
      have := hp.1
      rw [hp.cellAt j (by omega)]
      exact hj)
  have hr : ∀ ty, _ := fun ty => Lib.run_append_grow_zeros (P := Tryz.prog) w 192 3 ty 202 i0 _ .i64 .i64 Tryz.underlying192 Tryz.underlying3 hi0 hz0 (some ⟨g, 0, none⟩) i c (D.take (i * 3)) hold (n + 1 - i) (by omega) (by omega) (by omega) (by omega) (by rw [hz2]; omega) (by rw [hz2, show i + (n + 1 - i) = n + 1 by omega]; exact growslice_fits hroom hbig)
  rw [show i + (n + 1 - i) = n + 1 by omega] at hr
  have hG := grownCap_ge w (n + 1) c 202
  have hG2 := grownCap_le_maxLen w (n + 1) c 202 (by unfold maxLen; omega)
  obtain ⟨G, hGe⟩ : ∃ G, G = grownCap w (n + 1) c 202 := ⟨_, rfl⟩
  rw [← hGe] at hr hG hG2
  obtain ⟨ROW, hROW⟩ : ∃ ROW : Array Value, ROW = (D.take (i * 3)).toArray ++ Builtin.zeroCells (Value.agg #[.string ⟨#[]⟩, .slice none 0 0, .int .i64 0]).cells (n + 1 - i) ++ Builtin.zeroCells (Value.agg #[.string ⟨#[]⟩, .slice none 0 0, .int .i64 0]).cells (G - (n + 1)) := ⟨_, rfl⟩
  rw [← hROW] at hr
  have hcz : ∀ k, (Builtin.zeroCells (Value.agg #[.string ⟨#[]⟩, .slice none 0 0, .int .i64 0]).cells k).size = k * 3 := fun k => by
    have : (Value.agg #[Value.string ⟨#[]⟩, .slice none 0 0, .int .i64 0]).cells.size = 3 := by kernel_rfl
    simp [Builtin.zeroCells, this]
  have htl : (D.take (i * 3)).length = i * 3 := by rw [List.length_take]; omega
  have hRs : ROW.size = G * 3 := by
    rw [hROW, Array.size_append, Array.size_append, hcz, hcz, List.size_toArray, htl]
    omega
  refine ⟨G, w.drew.alloc (.cells ROW 202), ROW.toList.take ((n + 1) * 3), ?_, ?_, ?_, (Gr.refl w).drew.alloc _⟩
  · intro ty
    rw [show (n : Int) + 1 - (i : Int) = ((n + 1 - i : Nat) : Int) by omega]
    exact hr ty
  · refine ⟨by rw [List.length_take, Array.length_toList, hRs]; omega, .inr ⟨w.heap.size, G, ROW, rfl, Nat.le_refl _, heap_alloc_new w.drew _, hG, hG2, hRs, rfl⟩⟩
  · rw [List.take_take, Nat.min_eq_left (by omega), hROW, Array.toList_append, Array.toList_append, List.append_assoc, List.take_left' (by rw [htl])]

set_option maxRecDepth 100000 in
set_option maxHeartbeats 4000000 in
theorem insert_grow (v : Value) (M : List FB) (B i vb Bv : Nat) (nm : ByteArray) (w : World) (hv : DR w B v M) (hB : B ≤ w.heap.size) (hi : i < M.length) (hroom : ∀ A n c, v = .slice A n c → c < n + 1) (hbig : (M.length + 1) * 48 ≤ 140737488355328)
    (hx : w.ownsRow Bv 202 3 (.slice (some ⟨vb, 0, none⟩) 1 1) 1 (dcell (nz nm))) :
    Calls Tryz.prog 190 #[v, .int .i64 (i : Int), .slice (some ⟨vb, 0, none⟩) 1 1] w fun e w' => RetIns M B i nm v w e w' := by
  obtain ⟨g, c, rfl⟩ := hv.row.addr hi
  have hrm := hroom _ _ _ rfl
  obtain ⟨hnc, hc63, _, hgl⟩ := own_len hv.row
  have HONE := Lib.hid (dcells_one hv.bytes)
  obtain ⟨D, hD⟩ : ∃ D, D = dcells M := ⟨_, rfl⟩
  have hDl : D.length = M.length * 3 := by rw [hD, dcells_len]
  have HI : Hid (dcells (M.insertIdx i (nz nm)) = D.take (i * 3) ++ (dcell (nz nm) ++ D.drop (i * 3))) := Lib.hid (by rw [hD]; exact dcells_insert M i _ (by omega))
  have HL : Hid ((M.insertIdx i (nz nm)).length = M.length + 1) := Lib.hid (by rw [List.length_insertIdx, if_pos (by omega)])
  have HR : Hid (w.ownsRow B 202 3 (.slice (some ⟨g, 0, none⟩) M.length c) M.length D) := Lib.hid (by rw [hD]; exact hv.row)
  rw [← hD] at HONE
  clear hv hD hroom
  obtain ⟨n, hn⟩ : ∃ n, n = M.length := ⟨_, rfl⟩
  rw [← hn] at HR HL hnc hi hDl hrm hbig ⊢
  clear hn
  obtain ⟨G, W1, E, hgz, h1, hEt, hG1⟩ := grown_zeros HR.out hi hrm hbig
  obtain ⟨H, hH⟩ : ∃ H, H = w.heap.size := ⟨_, rfl⟩
  rw [← hH] at hgz h1
  have hEl : E.length = (n + 1) * 3 := h1.1
  obtain ⟨hG1', hG63, _, hHl⟩ := own_len h1
  have hx1 := own_gr hx hG1
  have hvb : vb < w.heap.size := (own_len hx).2.2.2
  have hr1 := own_gr HR.out hG1
  have hdl : (D.drop (i * 3)).length = (n - i) * 3 := by rw [List.length_drop, hDl]; omega
  obtain ⟨u1, hcp1⟩ := run_copy_draft W1 3 H (i * 3) (n + 1 - i) (G - i) ⟨vb, 0, none⟩ 1 1 (dcell (nz nm)) (by rw [dcell_len]; simp only [Nat.min_def]; split <;> omega)
    (fun j u hj => by
      rw [Go.WideShapes.add_plain, Nat.zero_add]
      have hjl : j < 3 := (List.getElem?_eq_some_iff.1 hj).1
      rw [hx1.cellAt j (by omega)]
      exact hj)
    (fun j hj => by rw [dcell_len] at hj; rw [h1.cellAt _ (by omega), List.getElem?_eq_getElem (by omega)]; rfl)
    (fun j _ => h1.frozenAt _) (nz_one nm)
  obtain ⟨h5, k5⟩ := own_setCells (dcell (nz nm)) (i * 3) W1 _ h1 (by rw [dcell_len, hEl]; omega)
  obtain ⟨w5, hw5⟩ : ∃ w5, w5 = W1.setCells H (i * 3) (dcell (nz nm)) := ⟨_, rfl⟩
  rw [← hw5] at hcp1 h5 k5
  have hol : (over E (i * 3) (dcell (nz nm))).length = (n + 1) * 3 := by rw [over_len _ _ _ (by rw [dcell_len, hEl]; omega), hEl]
  have h5d := own_gr h5 (Gr.refl _).drew
  have hr5 := own_gr (own_kp hr1 k5 (.inr (fun e => by have : g = H := Option.some.inj e; omega))) (Gr.refl _).drew
  obtain ⟨u2, hcp2⟩ := run_copy_draft w5.drew 3 H ((i + 1) * 3) (n - i) (G - (i + 1)) ⟨g, i * 3, none⟩ (n - i) (c - i) (D.drop (i * 3)) (by rw [hdl]; simp only [Nat.min_def]; split <;> omega)
    (fun j u hj => by
      rw [Go.WideShapes.add_plain]
      show w5.drew.cell? ⟨g, i * 3 + j, none⟩ = some u
      rw [List.getElem?_drop] at hj
      have hjl : i * 3 + j < D.length := (List.getElem?_eq_some_iff.1 hj).1
      rw [hr5.cellAt (i * 3 + j) (by omega)]
      exact hj)
    (fun j hj => by rw [hdl] at hj; rw [h5d.cellAt _ (by omega), List.getElem?_eq_getElem (by omega)]; rfl)
    (fun j _ => h5d.frozenAt _) (fun u hu => HONE.out u (List.mem_of_mem_drop hu))
  obtain ⟨h6, k6⟩ := own_setCells (D.drop (i * 3)) ((i + 1) * 3) w5.drew _ h5d (by rw [hdl, hol]; omega)
  rw [over_grow E D _ n i hEl hDl (by omega) hEt (dcell_len _), ← HI.out] at h6
  obtain ⟨w6, hw6⟩ : ∃ w6, w6 = w5.drew.setCells H ((i + 1) * 3) (D.drop (i * 3)) := ⟨_, rfl⟩
  rw [← hw6] at hcp2 h6 k6
  have hkH : Kp (some H) w w6 := Kp.trans (Kp.of_gr hG1) (Kp.trans k5 (Kp.trans (Kp.of_gr (Gr.refl _).drew) k6))
  have hgr : Gr w w6 := hkH.below (by omega) (fun g' hg' => by have := Option.some.inj hg'; omega)
  have HQ : Hid (w6.ownsRow B 202 3 (.slice (some ⟨H, 0, none⟩) (n + 1) G) (n + 1) (dcells (M.insertIdx i (nz nm))) ∧ Kp (some g) w w6) := Lib.hid ⟨own_le h6 (by omega), Kp.of_gr hgr⟩
  have hs0 := dslice_to n c i (by omega) (some ⟨g, 0, none⟩)
  have hs1 := dslice_mid n c i g (by omega) (by omega)
  have hs3 := dslice_mid (n + 1) G (i + 1) H (by omega) (by omega)
  have hs4 := dslice_mid (n + 1) G i H (by omega) (by omega)
  rw [show (((i + 1 : Nat) : Int)) = (i : Int) + 1 by omega, show n + 1 - (i + 1) = n - i by omega] at hs3
  have e1 : IntKind.i64.wrap ((n : Int) + 1) = (n : Int) + 1 := IntWalk.i64_in _ ⟨by omega, by omega⟩
  have e2 : IntKind.i64.wrap ((i : Int) + 1) = (i : Int) + 1 := IntWalk.i64_in _ ⟨by omega, by omega⟩
  have e5 : IntKind.i64.wrap ((n : Int) + 1 - (i : Int)) = (n : Int) + 1 - (i : Int) := IntWalk.i64_in _ ⟨by omega, by omega⟩
  have e3 : ¬ ((i : Int) = (n : Int)) := by omega
  have e4 : (c : Int) < (n : Int) + 1 := by omega
  have HC2 := Lib.hid hcp2
  have HH := Lib.hid hH
  clear h1 hx1 h5 k5 h6 k6 hcp2 hw5 hw6 hx hvb hdl hEl hEt hG1 hol h5d hr5 hr1 hkH hgr hH
  go_enter Tryz.func190, Tryz.ntmps190
  go_wp2_with (at_builtin; refine Lib.wpList_append_run _ rfl _ _ _ _ rfl _ _ rfl rfl _ _ (hgz _) ?_)
  go_region_law
    (refine step_copy_run rfl (.tmp 50) (.tmp 53) rfl _ _ (by simp [Act.eval, Act.put]) (by simp [Act.eval, Act.put]) HC2.out ?_)
  go_wp2_with fail
  go_ret
  refine ⟨_, rfl, ?_, .inr ⟨H, rfl, by rw [HH.out]; exact Nat.le_refl _⟩, HQ.out.2⟩
  show World.ownsRow _ _ _ _ _ _ _
  rw [HL.out]
  exact HQ.out.1
set_option maxRecDepth 100000 in
theorem insert_any (v : Value) (M : List FB) (B i vb Bv : Nat) (nm : ByteArray) (w : World) (hv : DR w B v M) (hB : B ≤ w.heap.size) (hi : i ≤ M.length) (hlen : (M.length + 1) * 48 ≤ 140737488355328) (hvb : v.ownBlock ≠ some vb)
    (hx : w.ownsRow Bv 202 3 (.slice (some ⟨vb, 0, none⟩) 1 1) 1 (dcell (nz nm))) :
    Calls Tryz.prog 190 #[v, .int .i64 (i : Int), .slice (some ⟨vb, 0, none⟩) 1 1] w fun e w' => RetIns M B i nm v w e w' := by
  rcases Nat.lt_or_ge i M.length with h | h
  · obtain ⟨A, c, hva, _⟩ := own_form hv.row
    rcases Nat.lt_or_ge c (M.length + 1) with hc | hc
    · exact insert_grow v M B i vb Bv nm w hv hB h (fun A' n' c' e => by rw [hva] at e; injection e with e1 e2 e3; omega) hlen hx
    · exact insert_shift v M B i vb Bv nm w hv h (fun A' n' c' e => by rw [hva] at e; injection e with e1 e2 e3; omega) hvb hx
  · obtain rfl : i = M.length := by omega
    exact insert_end v M B vb Bv nm w hv hB hlen hx
end Go.Proofs.YtlnhbndghnkfmaaGreatDoor
namespace Go.Proofs.YtlnhbndghnkfmaaGreatDoor
open Go.RowKit

set_option maxRecDepth 100000 in
/-- A string's bytes behind a row of bytes of the call's own: in the same block, or in a new one. -/
theorem run_append_bs (W : World) (B : Nat) (ty : TypeId) (v : Value) (n : Nat) (xs : List Value) (hown : W.ownsRow B 5 1 v n xs) (s : ByteArray) (hsz : n + s.size ≤ 140737488355328) (hB : B ≤ W.heap.size) :
    ∃ A' c' w', (Builtin.append_ #[121, 9] ty #[v, .string s]).run Tryz.prog W = .ok (.slice A' (n + s.size) c') w' ∧ w'.ownsRow B 5 1 (.slice A' (n + s.size) c') (n + s.size) (xs ++ Lib.strCells s) ∧ Kp v.ownBlock W w' ∧
      ((Value.slice A' (n + s.size) c').ownBlock = v.ownBlock ∨ ∃ x, (Value.slice A' (n + s.size) c').ownBlock = some x ∧ W.heap.size ≤ x) := by
  obtain ⟨i0, hi, hz0, hz1, hz2⟩ := info_parts infoU8
  have hm : n + s.size ≤ maxLen := by unfold maxLen; omega
  obtain ⟨v1, w1, hr, h1, h2, _⟩ := Lib.run_append_own_string (P := Tryz.prog) W B 121 9 ty 5 i0 Tryz.underlying121 Tryz.underlying9 hi hz0 hz1 hz2 v n xs hown s hm hsz hB
  obtain ⟨A', c', hv1, _⟩ := own_form h1
  subst hv1
  refine ⟨A', c', w1, hr, h1, h2, ?_⟩
  rcases hown.2 with ⟨rfl, rfl⟩ | ⟨g, cap, cur, rfl, hbg, hg, hnc, hcm, hcs, htake⟩
  · have hx : xs = [] := List.eq_nil_of_length_eq_zero (by have := hown.1; omega)
    subst hx
    obtain ⟨v2, w2, hr2, h3, _⟩ := Lib.run_append_own_string (P := Tryz.prog) W W.heap.size 121 9 ty 5 i0 Tryz.underlying121 Tryz.underlying9 hi hz0 hz1 hz2 (.slice none 0 0) 0 [] (World.ownsRow_nil W W.heap.size 5 1) s hm hsz (Nat.le_refl _)
    rw [hr] at hr2
    injection hr2 with e1 e2
    subst e1 e2
    cases hq : (Value.slice A' (0 + s.size) c').ownBlock with
    | none => exact .inl rfl
    | some x => exact .inr ⟨x, rfl, (h3.lt x hq).1⟩
  · by_cases hroom : n + s.size ≤ cap
    · obtain ⟨w2, hr2, _⟩ := run_append_str (P := Tryz.prog) W B 121 9 ty 5 i0 Tryz.underlying121 Tryz.underlying9 hi hz1 g n cap xs hown s hroom
      rw [hr] at hr2
      injection hr2 with e1 e2
      rw [e1]
      exact .inl rfl
    · have holds : ∀ j u, xs[j]? = some u → W.cell? ((⟨g, 0, none⟩ : Addr).add j) = some u := hown.cells (g := g) rfl
      have hr2 := Lib.run_append_grow_string (P := Tryz.prog) W 121 9 ty 5 i0 (.int .u8 0) Tryz.underlying121 Tryz.underlying9 hi hz0 ⟨g, 0, none⟩ n cap xs (by rw [hz1]; exact hown.1) holds s (by omega) (by omega) (by rw [hz2]; exact growslice_fits (by omega) (by omega))
      rw [hr] at hr2
      injection hr2 with e1 e2
      rw [e1]
      exact .inr ⟨_, rfl, Nat.le_refl _⟩
set_option maxRecDepth 100000 in
theorem RO.store {w : World} {B g n c : Nat} {M : List FB} (h : RO w B (.slice (some ⟨g, 0, none⟩) n c) M) {i r : Nat} (hi : i < M.length) (hr : r < 3) (p : FB) (u : Value) (hp : dcell p = (dcell M[i]).set r u) :
    RO (w.setCell ⟨g, i * 3 + r, none⟩ u) B (.slice (some ⟨g, 0, none⟩) n c) (M.set i p) := by
  have hn : n = M.length := by
    rcases h.2 with ⟨hh, _⟩ | ⟨g', cap', cur, hh, _⟩
    · cases hh
    · injection hh
  subst hn
  obtain ⟨h1, h2⟩ := h.stored (i * 3 + r) u
  unfold RO
  rw [List.length_set]
  have : dcells (M.set i p) = (dcells M).set (i * 3 + r) u := (rows_set dcell 3 dcell_len M i r hi hr p u hp).symm
  rw [this]
  exact h1
set_option maxRecDepth 100000 in
theorem Sep.set {w : World} {B : Nat} {M : List FB} {i : Nat} {p : FB} (h : Sep M) (hi : i < M.length) (hb : ∀ q ∈ M, BO w B q) (hat : p.2.ownBlock = M[i].2.ownBlock ∨ ∃ x, p.2.ownBlock = some x ∧ w.heap.size ≤ x) : Sep (M.set i p) := by
  have hs : ∀ a b, (ha : a < M.length) → (hb : b < M.length) → a ≠ b → ∀ g, M[a].2.ownBlock = some g → M[b].2.ownBlock ≠ some g := by
    intro a b ha hb hne g e1 e2
    have h' := List.pairwise_iff_getElem.1 h
    rcases Nat.lt_or_gt_of_ne hne with hlt | hlt
    · exact h' a b ha hb hlt g e1 e2
    · exact h' b a hb ha hlt g e2 e1
  have hfar : ∀ a, (ha : a < M.length) → a ≠ i → ∀ g, M[a].2.ownBlock = some g → p.2.ownBlock ≠ some g := by
    intro a ha hne g e1 e2
    rcases hat with e | ⟨x, e, hx⟩
    · rw [e] at e2; exact hs a i ha hi hne g e1 e2
    · rw [e] at e2
      injection e2 with e2
      have := (World.ownsRow.lt (hb _ (List.getElem_mem ha)) g e1).2
      omega
  refine List.pairwise_iff_getElem.2 fun a b ha hb' hlt g e1 e2 => ?_
  rw [List.length_set] at ha hb'
  rw [List.getElem_set] at e1 e2
  by_cases ea : i = a
  · rw [if_pos ea] at e1
    rw [if_neg (by omega)] at e2
    exact hfar b hb' (by omega) g e2 e1
  · rw [if_neg ea] at e1
    by_cases eb : i = b
    · rw [if_pos eb] at e2
      exact hfar a ha (by omega) g e1 e2
    · rw [if_neg eb] at e2
      exact hs a b ha hb' (by omega) g e1 e2
set_option maxRecDepth 100000 in
theorem Sep.at_ {M : List FB} (h : Sep M) {a b : Nat} (ha : a < M.length) (hb : b < M.length) (hne : a ≠ b) : M[a].2.ownBlock = none ∨ M[a].2.ownBlock ≠ M[b].2.ownBlock := by
  have h' := List.pairwise_iff_getElem.1 h
  cases hq : M[a].2.ownBlock with
  | none => exact .inl rfl
  | some x =>
    refine .inr fun e => ?_
    rcases Nat.lt_or_gt_of_ne hne with hlt | hlt
    · exact h' a b ha hb hlt x hq e.symm
    · exact h' b a hb ha hlt x e.symm hq
set_option maxRecDepth 100000 in
/-- One draft written anew. -/
theorem DR.put {w w4 w5 : World} {B g n c i : Nat} {M : List FB} {p : FB} (h : DR w B (.slice (some ⟨g, 0, none⟩) n c) M) (hi : i < M.length) (hk : Kp M[i].2.ownBlock w w4) (hb : BO w4 B p)
    (hat : p.2.ownBlock = M[i].2.ownBlock ∨ ∃ x, p.2.ownBlock = some x ∧ w.heap.size ≤ x) (h5 : Kp (some g) w4 w5) (hr : RO w5 B (.slice (some ⟨g, 0, none⟩) n c) (M.set i p)) : DR w5 B (.slice (some ⟨g, 0, none⟩) n c) (M.set i p) := by
  have hrow4 : RO w4 B (.slice (some ⟨g, 0, none⟩) n c) M := own_kp h.row hk (.inr fun e => by
    cases hq : M[i].2.ownBlock with
    | none => rw [hq] at e; cases e
    | some x => exact own_types (h.bytes _ (List.getElem_mem hi)) h.row (by decide) hq (by rw [e, hq]))
  have hne : ∀ q : FB, BO w4 B q → q.2.ownBlock ≠ some g := fun q hq => own_types hrow4 hq (by decide) rfl
  refine ⟨hr, fun q hq => ?_, h.sep.set hi h.bytes hat⟩
  have hq4 : BO w4 B q := by
    obtain ⟨j, hj, rfl⟩ := List.mem_iff_getElem.1 hq
    rw [List.length_set] at hj
    rw [List.getElem_set]
    split
    · exact hb
    · rename_i hji
      exact own_kp (h.bytes _ (List.getElem_mem hj)) hk (h.sep.at_ hj hi (fun e => hji e.symm))
  exact own_kp hq4 h5 (.inr (hne q hq4))
/-- What one operation answers: the drafts behind it, or the error's number. -/
def RetDraft (L : List F) (o : O) (B : Nat) (v : Value) (M : List FB) (w : World) (e : Ending) (w' : World) : Prop :=
  Below B w w' ∧ (((step L o).1 = 0 ∧ ∃ v' M', e = .returned (.tuple #[v', .int .i64 0]) ∧ files M' = (step L o).2 ∧ DR w' B v' M') ∨
    ((step L o).1 ≠ 0 ∧ e = .returned (.tuple #[.slice none 0 0, .int .i64 ((step L o).1 : Int)]) ∧ DR w' B v M))
end Go.Proofs.YtlnhbndghnkfmaaGreatDoor
namespace Go.Proofs.YtlnhbndghnkfmaaGreatDoor
open Go.RowKit

set_option maxRecDepth 100000 in
theorem obox (o : O) (w : World) : ∃ W, W = w.alloc (.cells #[.int .i64 o.kind, .string o.name, .string o.bytes, .int .i64 o.at_] 72) ∧ Gr w W ∧
    W.cell? ⟨w.heap.size, 0, none⟩ = some (.int .i64 o.kind) ∧ W.cell? ⟨w.heap.size, 1, none⟩ = some (.string o.name) ∧ W.cell? ⟨w.heap.size, 2, none⟩ = some (.string o.bytes) ∧ W.cell? ⟨w.heap.size, 3, none⟩ = some (.int .i64 o.at_) ∧ w.heap.size < W.heap.size :=
  ⟨_, rfl, gr_box w _, by simp, by simp, by simp, by simp, by simp⟩
set_option maxRecDepth 100000 in
theorem step_append_b {ops : Array Oper} {o : Oper} {a : Act} {W : World} {K : Act → World → Prop} {Q : Exit → Act → World → Prop} {E : Prop} (hgd : o.guard = none) (s x : Operand)
    (ho : o.op = .call { callee := .builtin .append, args := #[s, x], argTypes := #[121, 9] }) (B : Nat) (v : Value) (n N : Nat) (xs : List Value) (str : ByteArray) (hs : a.eval s = v)
    (hown : W.ownsRow B 5 1 v n xs) (hx : a.eval x = .string str) (hN : n + str.size = N) (hsz : N ≤ 140737488355328) (hB : B ≤ W.heap.size) (ad : Addr) {u : Value} (hc : W.cell? ad = some u) (hf : W.frozen? ad = false) (hlt : ad.block < W.heap.size) (hne : v.ownBlock ≠ some ad.block)
    (h : ∀ A' c' w', w'.ownsRow B 5 1 (.slice A' N c') N (xs ++ Lib.strCells str) → Kp v.ownBlock W w' → ((Value.slice A' N c').ownBlock = v.ownBlock ∨ ∃ x, (Value.slice A' N c').ownBlock = some x ∧ W.heap.size ≤ x) → w'.cell? ad = some u → w'.frozen? ad = false → K (a.put o.dst (.slice A' N c')) w') :
    if Region.wanted o (yielded ops a.tmps) = true then Oper.wp Tryz.prog o a W K Q else E := by
  have hw : Region.wanted o (yielded ops a.tmps) = true := by simp [Region.wanted, hgd]
  rw [if_pos hw]
  subst hN
  obtain ⟨A', c', w', hr, h2, h3, h4⟩ := run_append_bs W B o.type v n xs hown str hsz hB
  unfold Oper.wp execOp
  simp only [ho, resolve, invoke, builtin, Sem.run_bind, Sem.run_pure, Result.andThen_ok, List.map_toArray, List.map_cons, List.map_nil, hs, hx, hr]
  exact h A' c' w' h2 h3 h4 (h3.cell hc (fun e => hne e.symm)) ((h3.frozen_far ad hlt (fun e => hne e.symm)).trans hf)
set_option maxRecDepth 100000 in
theorem bcells_more (f : F) (s : ByteArray) : bcells f ++ Lib.strCells s = bcells ⟨f.name, f.kept, f.loose ++ s⟩ := by
  unfold bcells
  rw [List.append_assoc]
  congr 1
  unfold Lib.strCells
  rw [ByteArray.data_append, Array.toList_append, List.map_append]
set_option maxRecDepth 100000 in
theorem files_set (M : List FB) (i : Nat) (p : FB) : files (M.set i p) = (files M).set i p.1 := by unfold files; rw [List.map_set]
set_option maxRecDepth 100000 in
theorem files_insert (M : List FB) (i : Nat) (p : FB) : files (M.insertIdx i p) = (files M).insertIdx i p.1 := by
  unfold files
  induction M generalizing i with
  | nil => cases i <;> rfl
  | cons a M ih =>
    cases i with
    | zero => rfl
    | succ i => rw [List.insertIdx_succ_cons, List.map_cons, ih i]; rfl
set_option maxRecDepth 100000 in
theorem files_erase (M : List FB) (i : Nat) : files (M.eraseIdx i) = (files M).eraseIdx i := by
  unfold files
  induction M generalizing i with
  | nil => rfl
  | cons a M ih =>
    cases i with
    | zero => rfl
    | succ i => rw [List.eraseIdx_cons_succ, List.map_cons, ih i]; rfl
set_option maxRecDepth 100000 in
theorem RO.free {w : World} {B g n c : Nat} {M : List FB} (h : RO w B (.slice (some ⟨g, 0, none⟩) n c) M) (j : Nat) : w.frozen? ⟨g, j, none⟩ = false := by
  have hn : n = M.length := by
    rcases h.2 with ⟨hh, _⟩ | ⟨g', cap', cur, hh, _⟩
    · cases hh
    · injection hh
  subst hn
  exact h.frozenAt j
/-- A call's answer: these bytes behind a draft's. -/
def RetOld (M : List FB) (f : F) (bts : ByteArray) (i B : Nat) (v : Value) (w : World) (e : Ending) (w' : World) : Prop :=
  ∃ p : FB, e = .returned (.tuple #[v, .int .i64 0]) ∧ p.1 = ⟨f.name, f.kept, f.loose ++ bts⟩ ∧ DR w' B v (M.set i p) ∧ Below B w w'

set_option maxRecDepth 100000 in
set_option maxHeartbeats 4000000 in
theorem grow_old (v : Value) (M : List FB) (kd : Int) (nm bts : ByteArray) (at_ : Int) (B : Nat) (w : World) (hv : DR w B v M) (hB : B ≤ w.heap.size) (_hf : Fit (files M)) (hbz : bts.size ≤ 281474976710656) (i : Nat) (hi : i < M.length) (hsz : ¬ 1048576 < M[i].1.size + bts.size) :
    Calls Tryz.prog 183 #[v, .int .i64 (i : Int), .agg #[.int .i64 kd, .string nm, .string bts, .int .i64 at_]] w fun e w' => RetOld M M[i].1 bts i B v w e w' := by
  obtain ⟨g, c, rfl⟩ := hv.row.addr hi
  obtain ⟨hnc, hc63, hBg, hgl⟩ := own_len hv.row
  have HV := Lib.hid hv
  obtain ⟨n, hn⟩ : ∃ n, n = M.length := ⟨_, rfl⟩
  rw [← hn] at HV hnc ⊢
  have HN := Lib.hid hn
  obtain ⟨q0, q1, q2⟩ := HV.out.row.at_ hi
  have hbo := HV.out.bytes M[i] (List.getElem_mem hi)
  have hnb : M[i].2.ownBlock ≠ some g := own_types HV.out.row hbo (by decide) rfl
  obtain ⟨p, hp⟩ : ∃ p, p = M[i] := ⟨_, rfl⟩
  rw [← hp] at q0 q1 q2 hbo hsz hnb ⊢
  have HP := Lib.hid hp
  obtain ⟨f, bv⟩ := p
  obtain ⟨A1, c1, hbv, hb1, hb2⟩ := own_form hbo
  have hbv : bv = .slice A1 f.size c1 := hbv
  subst hbv
  dsimp only at q0 q1 q2 hsz hb1 ⊢
  obtain ⟨W, hW, hG, o0, o1, o2, o3, hz⟩ := obox ⟨kd, nm, bts, at_⟩ w
  dsimp only at o0 o1 o2 o3 hW
  have r1 := hG.cell q1
  have HVW := Lib.hid (HV.out.gr hG)
  have HBW : Hid (BO W B (f, .slice A1 f.size c1)) := Lib.hid (BO.gr hbo hG)
  have zf : W.frozen? ⟨g, i * 3 + 1, none⟩ = false := HVW.out.row.free _
  have HG := Lib.hid hG
  have HNB := Lib.hid hnb
  obtain ⟨N, hN⟩ : ∃ N, N = f.size := ⟨_, rfl⟩
  have HNf := Lib.hid hN
  rw [← hN] at r1 HBW hsz hb1
  have HBW2 : Hid (W.ownsRow B 5 1 (.slice A1 N c1) N (bcells f)) := Lib.hid (by have := HBW.out; unfold BO at this; rw [← hN] at this; exact this)
  have e1 : IntKind.i64.wrap ((bts.size : Int) + (N : Int)) = (bts.size : Int) + (N : Int) := IntWalk.i64_in _ ⟨by omega, by omega⟩
  have hil : i < n := by rw [HN.out]; exact hi
  have HNB2 : Hid ((Value.slice A1 N c1).ownBlock ≠ some g) := Lib.hid (by rw [HNf.out]; exact HNB.out)
  have HN2 : Hid (N + bts.size ≤ 140737488355328) := Lib.hid (by omega)
  have HB2 : Hid (B ≤ W.heap.size) := Lib.hid (by omega)
  have d1 : ¬ ((1048576 : Int) < (bts.size : Int) + (N : Int)) := by omega
  clear hv hn q0 q1 q2 hbo hp hG hnb hN HBW _hf o0 o1 o3
  go_enter Tryz.func183, Tryz.ntmps183
  go_upto_region 1 with (fail)
  rw [← hW]
  clear hW
  go_wp2_with fail
  go_region_law
    (refine step_append_b rfl (.tmp 46) (.tmp 48) rfl B (.slice A1 N c1) N (N + bts.size) (bcells f) bts (by simp [Act.eval]) HBW2.out (by simp [Act.eval]) rfl HN2.out HB2.out ⟨g, i * 3 + 1, none⟩ r1 zf (show g < W.heap.size by have := hz; omega) HNB2.out ?_
     intro A4 c4 w4 hown4 hk4 hat4 r4 z4)
  all_goals
    have HR : Hid (RetOld M f bts i B (.slice (some ⟨g, 0, none⟩) n c) w (.returned (.tuple #[.slice (some ⟨g, 0, none⟩) n c, .int .i64 0])) (w4.setCell ⟨g, i * 3 + 1, none⟩ (.slice A4 (N + bts.size) c4))) := Lib.hid (by
      refine ⟨(⟨f.name, f.kept, f.loose ++ bts⟩, .slice A4 (N + bts.size) c4), rfl, rfl, ?_, ?_⟩
      · have hd : DR W.drew B (.slice (some ⟨g, 0, none⟩) n c) M := HVW.out.gr (Gr.refl _).drew
        have hk : Kp M[i].2.ownBlock W.drew w4 := by rw [← HP.out, ← HNf.out]; exact hk4
        have hsz : (⟨f.name, f.kept, f.loose ++ bts⟩ : F).size = N + bts.size := by rw [HNf.out]; unfold F.size; dsimp only; rw [append_size']; omega
        refine DR.put hd hi hk ?_ ?_ (Kp.set (Kp.refl _ _) (.inr rfl) _ _) (RO.store (own_kp hd.row hk ?_) hi (r := 1) (by decide) _ _ (by rw [← HP.out]; rfl))
        · show World.ownsRow _ _ _ _ _ _ _
          rw [hsz, ← bcells_more]
          exact hown4
        · rw [← HP.out, ← HNf.out]; exact hat4
        · rw [← HP.out, ← HNf.out]
          exact .inr (fun e => HNB2.out e.symm)
      · exact Below.setCell (Below.trans (Below.mono (Gr.trans HG.out (Gr.refl _).drew) hB) (hk4.below HB2.out (fun x hx => (HBW2.out.lt x hx).1))) (p := ⟨g, i * 3 + 1, none⟩) hBg _)
    clear hown4 hk4 hat4
    go_wp2_with fail
    exact bodyPost_ret (v := .tuple #[.slice (some ⟨g, 0, none⟩) n c, .int .i64 0]) (by simp [results, Tryz.results183, go_sem]) rfl HR.out
/-- A call's answer: an error. -/
def RetNo (k : Nat) (w : World) (e : Ending) (w' : World) : Prop := e = .returned (.tuple #[.slice none 0 0, .int .i64 (k : Int)]) ∧ Gr w w'
set_option maxRecDepth 100000 in
set_option maxHeartbeats 4000000 in
theorem grow_longold (v : Value) (M : List FB) (kd : Int) (nm bts : ByteArray) (at_ : Int) (B : Nat) (w : World) (hv : DR w B v M) (hf : Fit (files M)) (hbz : bts.size ≤ 281474976710656) (i : Nat) (hi : i < M.length) (hsz : 1048576 < M[i].1.size + bts.size) :
    Calls Tryz.prog 183 #[v, .int .i64 (i : Int), .agg #[.int .i64 kd, .string nm, .string bts, .int .i64 at_]] w fun e w' => RetNo 2 w e w' := by
  obtain ⟨g, c, rfl⟩ := hv.row.addr hi
  obtain ⟨hnc, hc63, hBg, hgl⟩ := own_len hv.row
  have HV := Lib.hid hv
  obtain ⟨n, hn⟩ : ∃ n, n = M.length := ⟨_, rfl⟩
  rw [← hn] at HV hnc ⊢
  have HN := Lib.hid hn
  obtain ⟨q0, q1, q2⟩ := HV.out.row.at_ hi
  have hbo := HV.out.bytes M[i] (List.getElem_mem hi)
  have hfit := hf _ (List.mem_map_of_mem (f := Prod.fst) (List.getElem_mem hi))
  unfold FitF at hfit
  have hs := hfit.2
  obtain ⟨p, hp⟩ : ∃ p, p = M[i] := ⟨_, rfl⟩
  rw [← hp] at q0 q1 q2 hbo hsz hs
  obtain ⟨f, bv⟩ := p
  obtain ⟨A1, c1, hbv, hb1, hb2⟩ := own_form hbo
  have hbv : bv = .slice A1 f.size c1 := hbv
  subst hbv
  dsimp only at q0 q1 q2 hsz hb1 hs ⊢
  obtain ⟨W, hW, hG, o0, o1, o2, o3, hz⟩ := obox ⟨kd, nm, bts, at_⟩ w
  dsimp only at o0 o1 o2 o3 hW
  have r1 := hG.cell q1
  have HG := Lib.hid hG
  obtain ⟨N, hN⟩ : ∃ N, N = f.size := ⟨_, rfl⟩
  rw [← hN] at r1 hsz hb1 hs
  have e1 : IntKind.i64.wrap ((bts.size : Int) + (N : Int)) = (bts.size : Int) + (N : Int) := IntWalk.i64_in _ ⟨by omega, by omega⟩
  have hil : i < n := by rw [HN.out]; exact hi
  have d1 : (1048576 : Int) < (bts.size : Int) + (N : Int) := by omega
  clear hv hn q0 q1 q2 hbo hp hG hN hf hfit o0 o1 o3
  go_enter Tryz.func183, Tryz.ntmps183
  go_upto_region 1 with (fail)
  rw [← hW]
  clear hW
  go_wp2_with fail
  exact bodyPost_ret (v := .tuple #[.slice none 0 0, .int .i64 2]) (by simp [results, Tryz.results183, go_sem]) rfl ⟨rfl, HG.out⟩
set_option maxRecDepth 100000 in
set_option maxHeartbeats 4000000 in
theorem grow_full (v : Value) (M : List FB) (kd : Int) (nm bts : ByteArray) (at_ : Int) (B : Nat) (w : World) (hv : DR w B v M) (h64 : 64 ≤ M.length) :
    Calls Tryz.prog 183 #[v, .int .i64 (-1), .agg #[.int .i64 kd, .string nm, .string bts, .int .i64 at_]] w fun e w' => RetNo 4 w e w' := by
  obtain ⟨A, c, rfl, hnc, hc63⟩ := own_form hv.row
  obtain ⟨W, hW, hG, o0, o1, o2, o3, hz⟩ := obox ⟨kd, nm, bts, at_⟩ w
  dsimp only at o0 o1 o2 o3 hW
  have HG := Lib.hid hG
  have d1 : (64 : Int) ≤ (M.length : Int) := by omega
  clear hv hG o0 o1 o3
  go_enter Tryz.func183, Tryz.ntmps183
  go_upto_region 1 with (fail)
  rw [← hW]
  clear hW
  go_wp2_with fail
  exact bodyPost_ret (v := .tuple #[.slice none 0 0, .int .i64 4]) (by simp [results, Tryz.results183, go_sem]) rfl ⟨rfl, HG.out⟩
set_option maxRecDepth 100000 in
set_option maxHeartbeats 4000000 in
theorem grow_longnew (v : Value) (M : List FB) (kd : Int) (nm bts : ByteArray) (at_ : Int) (B : Nat) (w : World) (hv : DR w B v M) (h64 : ¬ 64 ≤ M.length) (hbz : bts.size ≤ 281474976710656) (hsz : 1048576 < bts.size) :
    Calls Tryz.prog 183 #[v, .int .i64 (-1), .agg #[.int .i64 kd, .string nm, .string bts, .int .i64 at_]] w fun e w' => RetNo 2 w e w' := by
  obtain ⟨A, c, rfl, hnc, hc63⟩ := own_form hv.row
  obtain ⟨W, hW, hG, o0, o1, o2, o3, hz⟩ := obox ⟨kd, nm, bts, at_⟩ w
  dsimp only at o0 o1 o2 o3 hW
  have HG := Lib.hid hG
  have d1 : ¬ (64 : Int) ≤ (M.length : Int) := by omega
  have d2 : (1048576 : Int) < (bts.size : Int) := by omega
  clear hv hG o0 o1 o3
  go_enter Tryz.func183, Tryz.ntmps183
  go_upto_region 1 with (fail)
  rw [← hW]
  clear hW
  go_wp2_with fail
  exact bodyPost_ret (v := .tuple #[.slice none 0 0, .int .i64 2]) (by simp [results, Tryz.results183, go_sem]) rfl ⟨rfl, HG.out⟩
end Go.Proofs.YtlnhbndghnkfmaaGreatDoor
