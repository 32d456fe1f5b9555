/- Walks: a draft more: in the midst of the row. -/
import Derived.Test.YtonlplfjiaejhaaDraftF
namespace Go.Proofs.Ytonlplfjiaejhaa
open Go.RowKit

theorem over_len (xs : List Value) (o : Nat) (cs : List Value) (h : o + cs.length ≤ xs.length) : (over xs o cs).length = xs.length := by
  unfold over
  rw [List.length_append, List.length_append, List.length_take, List.length_drop]
  omega
theorem over_shift (E D z : List Value) (n i : Nat) (hE : E.length = (n + 1) * 3) (hD : D.length = n * 3) (hi : i ≤ n) (ht : E.take (i * 3) = D.take (i * 3)) (hz : z.length = 3) :
    over (over E ((i + 1) * 3) (D.drop (i * 3))) (i * 3) z = D.take (i * 3) ++ (z ++ D.drop (i * 3)) := by
  have hl : (D.drop (i * 3)).length = (n - i) * 3 := by rw [List.length_drop, hD]; omega
  have h1 : over E ((i + 1) * 3) (D.drop (i * 3)) = E.take ((i + 1) * 3) ++ D.drop (i * 3) := by
    unfold over
    rw [hl, List.drop_of_length_le (l := E) (by rw [hE]; omega), List.append_nil]
  have htl : (E.take ((i + 1) * 3)).length = (i + 1) * 3 := by rw [List.length_take, hE]; omega
  rw [h1]
  unfold over
  rw [List.take_append_of_le_length (by omega), List.take_take, Nat.min_eq_left (by omega), ht, List.append_assoc, hz, List.drop_append, htl, List.drop_of_length_le (by omega), List.nil_append, show i * 3 + 3 - (i + 1) * 3 = 0 by omega, List.drop_zero]
theorem over_grow (E D z : List Value) (n i : Nat) (hE : E.length = (n + 1) * 3) (hD : D.length = n * 3) (hi : i ≤ n) (ht : E.take (i * 3) = D.take (i * 3)) (hz : z.length = 3) :
    over (over E (i * 3) z) ((i + 1) * 3) (D.drop (i * 3)) = D.take (i * 3) ++ (z ++ D.drop (i * 3)) := by
  have hl : (D.drop (i * 3)).length = (n - i) * 3 := by rw [List.length_drop, hD]; omega
  have hol : (over E (i * 3) z).length = (n + 1) * 3 := by rw [over_len E _ z (by omega), hE]
  have h1 : over (over E (i * 3) z) ((i + 1) * 3) (D.drop (i * 3)) = (over E (i * 3) z).take ((i + 1) * 3) ++ D.drop (i * 3) := by
    show (over E (i * 3) z).take ((i + 1) * 3) ++ D.drop (i * 3) ++ (over E (i * 3) z).drop ((i + 1) * 3 + (D.drop (i * 3)).length) = _
    rw [hl, List.drop_of_length_le (l := over E (i * 3) z) (by rw [hol]; omega), List.append_nil]
  rw [h1]
  unfold over
  rw [ht]
  have htl : (D.take (i * 3) ++ z).length = (i + 1) * 3 := by rw [List.length_append, List.length_take, hD, hz]; omega
  rw [List.take_append_of_le_length (by omega), List.take_of_length_le (by omega), List.append_assoc]
theorem dslice_mid (n c k g : Nat) (hk : k ≤ n) (hc : k < c) : ∀ W : World, (Instr.slice 49 (.slice (some ⟨g, 0, none⟩) n c) (some (.int .i64 (k : Int))) none none).run Try.prog W = .ok (.slice (some ⟨g, k * 3, none⟩) (n - k) (c - k)) W := by
  intro W
  rw [dslice_from n c k hk (some ⟨g, 0, none⟩) W]
  unfold sliced
  rw [if_neg (by omega)]
  congr 2
  show some ((⟨g, 0, none⟩ : Addr).add (k * 3)) = _
  rw [Go.WideShapes.add_plain, Nat.zero_add]
theorem step_copy_run {ops : Array Oper} {o : Oper} {a : Act} {w : World} {K : Act → World → Prop} {Q : Exit → Act → World → Prop} {E : Prop}
    (hg : o.guard = none) (d x : Operand) (hop : o.op = Op.call { callee := Callee.builtin Builtin.copy, args := #[d, x], argTypes := #[49, 49] })
    (v u : Value) (hd : a.eval d = v) (hx : a.eval x = u) {v' : Value} {w' : World} (hr : (Builtin.copy_ #[49, 49] o.type #[v, u]).run Try.prog w = .ok v' w') (hK : K (a.put o.dst v') w') :
    if Region.wanted o (yielded ops a.tmps) = true then Oper.wp Try.prog o a w K Q else E := by
  have hw : Region.wanted o (yielded ops a.tmps) = true := by simp [Region.wanted, hg]
  rw [if_pos hw]
  unfold Oper.wp
  simp [execOp, hop, resolve, invoke, builtin, hd, hx, hr, Result.andThen]
  exact hK
theorem apart (vb b : Nat) (hne : vb ≠ b) (w : World) (tA tB : TypeId) (kA kB : Nat) (hsa : w.shape? vb = some (tA, kA)) (hsb : w.shape? b = some (tB, kB)) (hkB : kB ≠ 0) (hfa : ∀ j, w.frozen? ⟨vb, j, none⟩ = false) (o m vc lb cb : Nat) :
    (callFunc 40 #[.slice (some ⟨vb, 0, none⟩) m vc, .slice (some ⟨b, o, none⟩) lb cb]).run Try.prog w = .ok (.value (.bool false)) w := by
  rw [run_callFunc_extern Try.func40 (by kernel_rfl) (by kernel_rfl) (by kernel_rfl) (e := Extern.SlicesOverlaps.overlaps #[49, 49] #[4]) (by kernel_rfl),
    Lib.run_overlaps_apart w 49 4 62 Try.underlying49 3 sizeDraft ⟨vb, 0, none⟩ ⟨b, o, none⟩ m vc lb cb hne tA tB kA kB hsa hsb hkB (hfa 0) (hfa kA)]
  rfl

set_option maxRecDepth 100000 in
set_option maxHeartbeats 4000000 in
theorem insert_shift (v : Value) (M : List FB) (B i vb Bv : Nat) (nm : ByteArray) (w : World) (hv : DR w B v M) (hi : i < M.length) (hroom : ∀ A n c, v = .slice A n c → n + 1 ≤ c) (hvb : v.ownBlock ≠ some vb)
    (hx : w.ownsRow Bv 62 3 (.slice (some ⟨vb, 0, none⟩) 1 1) 1 (dcell (nz nm))) :
    Calls Try.prog 39 #[v, .int .i64 (i : Int), .slice (some ⟨vb, 0, none⟩) 1 1] w fun e w' => RetIns M B i nm v w e w' := by
  obtain ⟨g, c, rfl⟩ := hv.row.addr hi
  have hrm := hroom _ _ _ rfl
  obtain ⟨hnc, hc63, _, hgl⟩ := own_len hv.row
  have hne : vb ≠ g := fun e => hvb (by rw [e]; rfl)
  have HONE := Lib.hid (dcells_one hv.bytes)
  obtain ⟨D, hD⟩ : ∃ D, D = dcells M := ⟨_, rfl⟩
  have hDl : D.length = M.length * 3 := by rw [hD, dcells_len]
  have HI : Hid (dcells (M.insertIdx i (nz nm)) = D.take (i * 3) ++ (dcell (nz nm) ++ D.drop (i * 3))) := Lib.hid (by rw [hD]; exact dcells_insert M i _ (by omega))
  have HL : Hid ((M.insertIdx i (nz nm)).length = M.length + 1) := Lib.hid (by rw [List.length_insertIdx, if_pos (by omega)])
  have HR : Hid (w.ownsRow B 62 3 (.slice (some ⟨g, 0, none⟩) M.length c) M.length D) := Lib.hid (by rw [hD]; exact hv.row)
  rw [← hD] at HONE
  clear hv hD hroom
  obtain ⟨n, hn⟩ : ∃ n, n = M.length := ⟨_, rfl⟩
  rw [← hn] at HR HL hnc hi hDl hrm ⊢
  clear hn
  obtain ⟨ys, hys, h1⟩ := own_more HR.out hrm
  have h1d := own_gr h1 (Gr.refl _).drew
  have hxd := own_gr hx (Gr.refl _).drew
  have hEl : (D ++ ys).length = (n + 1) * 3 := by rw [List.length_append, hDl, hys]; omega
  have hdl : (D.drop (i * 3)).length = (n - i) * 3 := by rw [List.length_drop, hDl]; omega
  obtain ⟨u1, hcp1⟩ := run_copy_draft w.drew 3 g ((i + 1) * 3) (n - i) (c - (i + 1)) ⟨g, i * 3, none⟩ (n + 1 - i) (c - i) (D.drop (i * 3)) (by rw [hdl]; simp only [Nat.min_def]; split <;> omega)
    (fun j u hj => by
      rw [Go.WideShapes.add_plain]
      show w.drew.cell? ⟨g, i * 3 + j, none⟩ = some u
      rw [List.getElem?_drop] at hj
      have hjl : i * 3 + j < D.length := (List.getElem?_eq_some_iff.1 hj).1
      rw [h1d.cellAt (i * 3 + j) (by omega), List.getElem?_append_left hjl]
      exact hj)
    (fun j hj => by rw [hdl] at hj; rw [h1d.cellAt _ (by omega), List.getElem?_eq_getElem (by omega)]; rfl)
    (fun j _ => h1d.frozenAt _) (fun u hu => HONE.out u (List.mem_of_mem_drop hu))
  obtain ⟨h5, k5⟩ := own_setCells (D.drop (i * 3)) ((i + 1) * 3) w.drew _ h1d (by rw [hdl, hEl]; omega)
  obtain ⟨w5, hw5⟩ : ∃ w5, w5 = w.drew.setCells g ((i + 1) * 3) (D.drop (i * 3)) := ⟨_, rfl⟩
  rw [← hw5] at hcp1 h5 k5
  have hx5 := own_kp hxd k5 (.inr (fun e => hne (Option.some.inj e)))
  obtain ⟨u2, hcp2⟩ := run_copy_draft w5 3 g (i * 3) (n + 1 - i) (c - i) ⟨vb, 0, none⟩ 1 1 (dcell (nz nm)) (by rw [dcell_len]; simp only [Nat.min_def]; split <;> omega)
    (fun j u hj => by
      rw [Go.WideShapes.add_plain, Nat.zero_add]
      have hjl : j < 3 := (List.getElem?_eq_some_iff.1 hj).1
      rw [hx5.cellAt j (by omega)]
      exact hj)
    (fun j hj => by rw [dcell_len] at hj; rw [h5.cellAt _ (by omega), List.getElem?_eq_getElem (by rw [over_len _ _ _ (by rw [hdl, hEl]; omega), hEl]; omega)]; rfl)
    (fun j _ => h5.frozenAt _) (nz_one nm)
  obtain ⟨h6, k6⟩ := own_setCells (dcell (nz nm)) (i * 3) w5 _ h5 (by rw [dcell_len, over_len _ _ _ (by rw [hdl, hEl]; omega), hEl]; omega)
  rw [over_shift (D ++ ys) D _ n i hEl hDl (by omega) (List.take_append_of_le_length (by omega)) (dcell_len _), ← HI.out] at h6
  obtain ⟨w6, hw6⟩ : ∃ w6, w6 = w5.setCells g (i * 3) (dcell (nz nm)) := ⟨_, rfl⟩
  rw [← hw6] at hcp2 h6 k6
  have HQ : Hid (w6.ownsRow B 62 3 (.slice (some ⟨g, 0, none⟩) (n + 1) c) (n + 1) (dcells (M.insertIdx i (nz nm))) ∧ Kp (some g) w w6) := Lib.hid ⟨h6, Kp.trans (Kp.of_gr (Gr.refl _).drew) (Kp.trans k5 k6)⟩
  have hov := apart vb g hne w _ _ _ _ (own_shape hx) (own_shape h1) (by omega) hx.frozenAt ((i + 1) * 3) 1 1 (n - i) (c - (i + 1))
  have hs1 := dslice_mid n c i g (by omega) (by omega)
  have hs2 := dslice_to n c (n + 1) hrm (some ⟨g, 0, none⟩)
  have hs3 := dslice_mid (n + 1) c (i + 1) g (by omega) (by omega)
  have hs4 := dslice_mid (n + 1) c i g (by omega) (by omega)
  rw [show (((n + 1 : Nat) : Int)) = (n : Int) + 1 by omega] at hs2
  rw [show (((i + 1 : Nat) : Int)) = (i : Int) + 1 by omega, show n + 1 - (i + 1) = n - i by omega] at hs3
  have e1 : IntKind.i64.wrap ((n : Int) + 1) = (n : Int) + 1 := IntWalk.i64_in _ ⟨by omega, by omega⟩
  have e2 : IntKind.i64.wrap ((i : Int) + 1) = (i : Int) + 1 := IntWalk.i64_in _ ⟨by omega, by omega⟩
  have e3 : ¬ ((i : Int) = (n : Int)) := by omega
  have e4 : ¬ ((c : Int) < (n : Int) + 1) := by omega
  have HC1 := Lib.hid hcp1
  clear h1 h1d hxd hx5 h5 k5 h6 k6 hcp1 hw5 hw6 hx hvb hdl hEl
  go_enter Try.func39, Try.ntmps39
  go_wp2_with (simp only [hov])
  have HC2 := Lib.hid hcp2
  clear hcp2 hov
  go_region_law
    (refine step_copy_run rfl (.tmp 73) (.tmp 76) rfl _ _ (by simp [Act.eval, Act.put]) (by simp [Act.eval, Act.put]) HC1.out ?_)
  have hcp2 := HC2.out
  go_wp2_with fail
  go_ret
  refine ⟨_, rfl, ?_, .inl rfl, HQ.out.2⟩
  show World.ownsRow _ _ _ _ _ _ _
  rw [HL.out]
  exact HQ.out.1
end Go.Proofs.Ytonlplfjiaejhaa
