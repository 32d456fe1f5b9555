/- Walks: a draft more: in a new row. -/
import Derived.Test.YtonlplfjiaejhaaDraftG
namespace Go.Proofs.Ytonlplfjiaejhaa
open Go.RowKit

theorem grown_zeros {w : World} {B i n g c : Nat} {D : List Value} (h : w.ownsRow B 62 3 (.slice (some ⟨g, 0, none⟩) n c) n D) (hi : i < n) (hroom : c < n + 1) (hbig : (n + 1) * 48 ≤ 140737488355328) :
    ∃ G W1 E, (∀ ty, (Builtin.append_ #[49, 3] ty #[.slice (some ⟨g, 0, none⟩) i c, .int .i64 ((n : Int) + 1 - (i : Int))]).run Try.prog w = .ok (.slice (some ⟨w.heap.size, 0, none⟩) (n + 1) G) W1) ∧
      W1.ownsRow w.heap.size 62 3 (.slice (some ⟨w.heap.size, 0, none⟩) (n + 1) G) (n + 1) E ∧ E.take (i * 3) = D.take (i * 3) ∧ Gr w W1 := by
  obtain ⟨i0, hi0, hz0, hz1, hz2⟩ := info_parts infoDraft
  have hp := own_gr (own_prefix h (k := i) (by omega)) (Gr.refl _).drew
  have hl := h.1
  have hold : (Builtin.firstCells i0.size i (.slice (some ⟨g, 0, none⟩) i c)).run Try.prog w.drew = .ok (D.take (i * 3)).toArray w.drew := by
    rw [hz1]
    exact run_firstCells_some w.drew 3 i ⟨g, 0, none⟩ i c (D.take (i * 3)) hp.1 (fun j u hj => by
      rw [Go.WideShapes.add_plain, Nat.zero_add]
      have hjl := (List.getElem?_eq_some_iff.1 hj).1
      have := hp.1
      rw [hp.cellAt j (by omega)]
      exact hj)
  have hr : ∀ ty, _ := fun ty => Lib.run_append_grow_zeros (P := Try.prog) w 49 3 ty 62 i0 _ .i64 .i64 Try.underlying49 Try.underlying3 hi0 hz0 (some ⟨g, 0, none⟩) i c (D.take (i * 3)) hold (n + 1 - i) (by omega) (by omega) (by omega) (by omega) (by rw [hz2]; omega) (by rw [hz2, show i + (n + 1 - i) = n + 1 by omega]; exact growslice_fits hroom hbig)
  rw [show i + (n + 1 - i) = n + 1 by omega] at hr
  have hG := grownCap_ge w (n + 1) c 62
  have hG2 := grownCap_le_maxLen w (n + 1) c 62 (by unfold maxLen; omega)
  obtain ⟨G, hGe⟩ : ∃ G, G = grownCap w (n + 1) c 62 := ⟨_, rfl⟩
  rw [← hGe] at hr hG hG2
  obtain ⟨ROW, hROW⟩ : ∃ ROW : Array Value, ROW = (D.take (i * 3)).toArray ++ Builtin.zeroCells (Value.agg #[.string ⟨#[]⟩, .slice none 0 0, .int .i64 0]).cells (n + 1 - i) ++ Builtin.zeroCells (Value.agg #[.string ⟨#[]⟩, .slice none 0 0, .int .i64 0]).cells (G - (n + 1)) := ⟨_, rfl⟩
  rw [← hROW] at hr
  have hcz : ∀ k, (Builtin.zeroCells (Value.agg #[.string ⟨#[]⟩, .slice none 0 0, .int .i64 0]).cells k).size = k * 3 := fun k => by
    have : (Value.agg #[Value.string ⟨#[]⟩, .slice none 0 0, .int .i64 0]).cells.size = 3 := by kernel_rfl
    simp [Builtin.zeroCells, this]
  have htl : (D.take (i * 3)).length = i * 3 := by rw [List.length_take]; omega
  have hRs : ROW.size = G * 3 := by
    rw [hROW, Array.size_append, Array.size_append, hcz, hcz, List.size_toArray, htl]
    omega
  refine ⟨G, w.drew.alloc (.cells ROW 62), ROW.toList.take ((n + 1) * 3), ?_, ?_, ?_, (Gr.refl w).drew.alloc _⟩
  · intro ty
    rw [show (n : Int) + 1 - (i : Int) = ((n + 1 - i : Nat) : Int) by omega]
    exact hr ty
  · refine ⟨by rw [List.length_take, Array.length_toList, hRs]; omega, .inr ⟨w.heap.size, G, ROW, rfl, Nat.le_refl _, heap_alloc_new w.drew _, hG, hG2, hRs, rfl⟩⟩
  · rw [List.take_take, Nat.min_eq_left (by omega), hROW, Array.toList_append, Array.toList_append, List.append_assoc, List.take_left' (by rw [htl])]

set_option maxRecDepth 100000 in
set_option maxHeartbeats 4000000 in
theorem insert_grow (v : Value) (M : List FB) (B i vb Bv : Nat) (nm : ByteArray) (w : World) (hv : DR w B v M) (hB : B ≤ w.heap.size) (hi : i < M.length) (hroom : ∀ A n c, v = .slice A n c → c < n + 1) (hbig : (M.length + 1) * 48 ≤ 140737488355328)
    (hx : w.ownsRow Bv 62 3 (.slice (some ⟨vb, 0, none⟩) 1 1) 1 (dcell (nz nm))) :
    Calls Try.prog 39 #[v, .int .i64 (i : Int), .slice (some ⟨vb, 0, none⟩) 1 1] w fun e w' => RetIns M B i nm v w e w' := by
  obtain ⟨g, c, rfl⟩ := hv.row.addr hi
  have hrm := hroom _ _ _ rfl
  obtain ⟨hnc, hc63, _, hgl⟩ := own_len hv.row
  have HONE := Lib.hid (dcells_one hv.bytes)
  obtain ⟨D, hD⟩ : ∃ D, D = dcells M := ⟨_, rfl⟩
  have hDl : D.length = M.length * 3 := by rw [hD, dcells_len]
  have HI : Hid (dcells (M.insertIdx i (nz nm)) = D.take (i * 3) ++ (dcell (nz nm) ++ D.drop (i * 3))) := Lib.hid (by rw [hD]; exact dcells_insert M i _ (by omega))
  have HL : Hid ((M.insertIdx i (nz nm)).length = M.length + 1) := Lib.hid (by rw [List.length_insertIdx, if_pos (by omega)])
  have HR : Hid (w.ownsRow B 62 3 (.slice (some ⟨g, 0, none⟩) M.length c) M.length D) := Lib.hid (by rw [hD]; exact hv.row)
  rw [← hD] at HONE
  clear hv hD hroom
  obtain ⟨n, hn⟩ : ∃ n, n = M.length := ⟨_, rfl⟩
  rw [← hn] at HR HL hnc hi hDl hrm hbig ⊢
  clear hn
  obtain ⟨G, W1, E, hgz, h1, hEt, hG1⟩ := grown_zeros HR.out hi hrm hbig
  obtain ⟨H, hH⟩ : ∃ H, H = w.heap.size := ⟨_, rfl⟩
  rw [← hH] at hgz h1
  have hEl : E.length = (n + 1) * 3 := h1.1
  obtain ⟨hG1', hG63, _, hHl⟩ := own_len h1
  have hx1 := own_gr hx hG1
  have hvb : vb < w.heap.size := (own_len hx).2.2.2
  have hr1 := own_gr HR.out hG1
  have hdl : (D.drop (i * 3)).length = (n - i) * 3 := by rw [List.length_drop, hDl]; omega
  obtain ⟨u1, hcp1⟩ := run_copy_draft W1 3 H (i * 3) (n + 1 - i) (G - i) ⟨vb, 0, none⟩ 1 1 (dcell (nz nm)) (by rw [dcell_len]; simp only [Nat.min_def]; split <;> omega)
    (fun j u hj => by
      rw [Go.WideShapes.add_plain, Nat.zero_add]
      have hjl : j < 3 := (List.getElem?_eq_some_iff.1 hj).1
      rw [hx1.cellAt j (by omega)]
      exact hj)
    (fun j hj => by rw [dcell_len] at hj; rw [h1.cellAt _ (by omega), List.getElem?_eq_getElem (by omega)]; rfl)
    (fun j _ => h1.frozenAt _) (nz_one nm)
  obtain ⟨h5, k5⟩ := own_setCells (dcell (nz nm)) (i * 3) W1 _ h1 (by rw [dcell_len, hEl]; omega)
  obtain ⟨w5, hw5⟩ : ∃ w5, w5 = W1.setCells H (i * 3) (dcell (nz nm)) := ⟨_, rfl⟩
  rw [← hw5] at hcp1 h5 k5
  have hol : (over E (i * 3) (dcell (nz nm))).length = (n + 1) * 3 := by rw [over_len _ _ _ (by rw [dcell_len, hEl]; omega), hEl]
  have h5d := own_gr h5 (Gr.refl _).drew
  have hr5 := own_gr (own_kp hr1 k5 (.inr (fun e => by have : g = H := Option.some.inj e; omega))) (Gr.refl _).drew
  obtain ⟨u2, hcp2⟩ := run_copy_draft w5.drew 3 H ((i + 1) * 3) (n - i) (G - (i + 1)) ⟨g, i * 3, none⟩ (n - i) (c - i) (D.drop (i * 3)) (by rw [hdl]; simp only [Nat.min_def]; split <;> omega)
    (fun j u hj => by
      rw [Go.WideShapes.add_plain]
      show w5.drew.cell? ⟨g, i * 3 + j, none⟩ = some u
      rw [List.getElem?_drop] at hj
      have hjl : i * 3 + j < D.length := (List.getElem?_eq_some_iff.1 hj).1
      rw [hr5.cellAt (i * 3 + j) (by omega)]
      exact hj)
    (fun j hj => by rw [hdl] at hj; rw [h5d.cellAt _ (by omega), List.getElem?_eq_getElem (by omega)]; rfl)
    (fun j _ => h5d.frozenAt _) (fun u hu => HONE.out u (List.mem_of_mem_drop hu))
  obtain ⟨h6, k6⟩ := own_setCells (D.drop (i * 3)) ((i + 1) * 3) w5.drew _ h5d (by rw [hdl, hol]; omega)
  rw [over_grow E D _ n i hEl hDl (by omega) hEt (dcell_len _), ← HI.out] at h6
  obtain ⟨w6, hw6⟩ : ∃ w6, w6 = w5.drew.setCells H ((i + 1) * 3) (D.drop (i * 3)) := ⟨_, rfl⟩
  rw [← hw6] at hcp2 h6 k6
  have hkH : Kp (some H) w w6 := Kp.trans (Kp.of_gr hG1) (Kp.trans k5 (Kp.trans (Kp.of_gr (Gr.refl _).drew) k6))
  have hgr : Gr w w6 := hkH.below (by omega) (fun g' hg' => by have := Option.some.inj hg'; omega)
  have HQ : Hid (w6.ownsRow B 62 3 (.slice (some ⟨H, 0, none⟩) (n + 1) G) (n + 1) (dcells (M.insertIdx i (nz nm))) ∧ Kp (some g) w w6) := Lib.hid ⟨own_le h6 (by omega), Kp.of_gr hgr⟩
  have hs0 := dslice_to n c i (by omega) (some ⟨g, 0, none⟩)
  have hs1 := dslice_mid n c i g (by omega) (by omega)
  have hs3 := dslice_mid (n + 1) G (i + 1) H (by omega) (by omega)
  have hs4 := dslice_mid (n + 1) G i H (by omega) (by omega)
  rw [show (((i + 1 : Nat) : Int)) = (i : Int) + 1 by omega, show n + 1 - (i + 1) = n - i by omega] at hs3
  have e1 : IntKind.i64.wrap ((n : Int) + 1) = (n : Int) + 1 := IntWalk.i64_in _ ⟨by omega, by omega⟩
  have e2 : IntKind.i64.wrap ((i : Int) + 1) = (i : Int) + 1 := IntWalk.i64_in _ ⟨by omega, by omega⟩
  have e5 : IntKind.i64.wrap ((n : Int) + 1 - (i : Int)) = (n : Int) + 1 - (i : Int) := IntWalk.i64_in _ ⟨by omega, by omega⟩
  have e3 : ¬ ((i : Int) = (n : Int)) := by omega
  have e4 : (c : Int) < (n : Int) + 1 := by omega
  have HC2 := Lib.hid hcp2
  have HH := Lib.hid hH
  clear h1 hx1 h5 k5 h6 k6 hcp2 hw5 hw6 hx hvb hdl hEl hEt hG1 hol h5d hr5 hr1 hkH hgr hH
  go_enter Try.func39, Try.ntmps39
  go_wp2_with (at_builtin; refine Lib.wpList_append_run _ rfl _ _ _ _ rfl _ _ rfl rfl _ _ (hgz _) ?_)
  go_region_law
    (refine step_copy_run rfl (.tmp 50) (.tmp 53) rfl _ _ (by simp [Act.eval, Act.put]) (by simp [Act.eval, Act.put]) HC2.out ?_)
  go_wp2_with fail
  go_ret
  refine ⟨_, rfl, ?_, .inr ⟨H, rfl, by rw [HH.out]; exact Nat.le_refl _⟩, HQ.out.2⟩
  show World.ownsRow _ _ _ _ _ _ _
  rw [HL.out]
  exact HQ.out.1
theorem insert_any (v : Value) (M : List FB) (B i vb Bv : Nat) (nm : ByteArray) (w : World) (hv : DR w B v M) (hB : B ≤ w.heap.size) (hi : i ≤ M.length) (hlen : (M.length + 1) * 48 ≤ 140737488355328) (hvb : v.ownBlock ≠ some vb)
    (hx : w.ownsRow Bv 62 3 (.slice (some ⟨vb, 0, none⟩) 1 1) 1 (dcell (nz nm))) :
    Calls Try.prog 39 #[v, .int .i64 (i : Int), .slice (some ⟨vb, 0, none⟩) 1 1] w fun e w' => RetIns M B i nm v w e w' := by
  rcases Nat.lt_or_ge i M.length with h | h
  · obtain ⟨A, c, hva, _⟩ := own_form hv.row
    rcases Nat.lt_or_ge c (M.length + 1) with hc | hc
    · exact insert_grow v M B i vb Bv nm w hv hB h (fun A' n' c' e => by rw [hva] at e; injection e with e1 e2 e3; omega) hlen hx
    · exact insert_shift v M B i vb Bv nm w hv h (fun A' n' c' e => by rw [hva] at e; injection e with e1 e2 e3; omega) hvb hx
  · obtain rfl : i = M.length := by omega
    exact insert_end v M B vb Bv nm w hv hB hlen hx
end Go.Proofs.Ytonlplfjiaejhaa
