/- Walks: copies, Same; the law RuleForms. -/
import Derived.Test.YtioldhhnkeakcaaDoorRuZ
import Derived.Test.YtioldhhnkeakcaaDoorRuV
import Derived.Test.YtioldhhnkeakcaaDoorRuSa
namespace Go.Proofs.YtioldhhnkeakcaaDoor
open Go.RowKit Go.Joins
set_option linter.unusedSimpArgs false
set_option linter.unusedVariables false

theorem eqTO_self (f : TO) : eqTO f f = true := eqTO_iff.2 rfl
theorem own_emptyO (w : World) : TOO (w.alloc (.cells #[] 30)) w.heap.size (.slice (some ⟨w.heap.size, 0, none⟩) 0 0) [] :=
  World.ownsRow_made w #[] 0 (Nat.le_refl _) (Nat.zero_le _) rfl
theorem wpList_push_ops {W w0 : World} {ops : Array Oper} {rest : List Oper} {o : Oper} {a : Act} {Q : Exit → Act → World → Prop} (hw : Region.wanted o (yielded ops a.tmps) = true) (s x : Operand)
    (ho : o.op = .call { callee := .builtin .append, args := #[s, x], argTypes := #[23, 23] })
    (v vx : Value) (L M : List TO) (n m : Nat) (hn : n = L.length) (hm : m = M.length) (hs : a.eval s = v) (hown : TOO W w0.heap.size v L) (hx : a.eval x = vx) (hxv : TOV W vx M) (hlen : (n + m) * 48 ≤ 140737488355328) (hg : Gr w0 W)
    (h : ∀ A' c' w', TOO w' w0.heap.size (.slice A' (n + m) c') (L ++ M) → Gr w0 w' → W.grownBy w' v.ownBlock → wpList Tryd.prog ops Q rest (a.put o.dst (.slice A' (n + m) c')) w') :
    wpList Tryd.prog ops Q (o :: rest) a W := by
  subst hn hm
  obtain ⟨i0, hi, hz0, hz1, hz2⟩ := info_parts infoTOp
  have hsz := hg.size
  refine Go.BigFrame.wpList_want hw (fun K hK => ?_)
  refine wp_append_sl W s x 23 ho w0.heap.size 30 i0 _ 4 48 Tryd.underlying23 hi hz0 hz1 hz2 rfl (by decide) v L.length (tocells L) hs hown vx M.length (tocells M) hx
    hxv.sl (tocells_one M) (by unfold maxLen; omega) hlen hsz (L.length + M.length) rfl ?_
  intro A' c' w' hown' hgr _
  refine hK _ _ (h A' c' w' ?_ (gr_of_grown hg hown hgr hsz) hgr)
  unfold TOO
  rw [List.length_append]
  unfold tocells at hown' ⊢
  rw [List.flatMap_append]
  exact hown'
theorem bneI (n : Int) : (n != n) = false := by simp
set_option maxRecDepth 100000 in
set_option maxHeartbeats 4000000 in
theorem ruleForms_any (v vo : Value) (L : List RU) (m : Int) (ops : List TO) (w : World) (hv : UV w v L) (ho : TOV w vo ops) (hks : ∀ r ∈ L, r.key.size ≤ 9223372036854775807) (hos : ∀ o ∈ ops, o.key.size ≤ 9223372036854775807 ∧ o.elem.size ≤ 281474976710656) (hl : (L.length + 1) * 56 ≤ 140737488355328) (hlo : (ops.length + 1) * 48 ≤ 140737488355328) (hp : Laid w) :
    Calls Tryd.prog 3 #[v, .int .i64 m, vo] w fun e w' => e = .returned (.bool true) ∧ Gr w w' := by
  have HA := Lib.hid (awake14_any w hp)
  have HC := Lib.hid (fun w1 (g : Gr w w1) => copied14_any v L hl w1 (hv.gr g))
  have HF := Lib.hid (fun v2 vo2 w1 (g : Gr w w1) (h2 : UV w1 v2 L) (h3 : TOV w1 vo2 ops) => form_any v2 vo2 L m ops hks hos w1 h2 h3 (hp.gr g))
  have HR := Lib.hid (fun w1 (g : Gr w w1) => rform_any v vo L m ops hks hos w1 (hv.gr g) (ho.gr g))
  have HS := Lib.hid (fun v2 w1 (g : Gr w w1) (h2 : UV w1 v2 L) => same14_any v2 v L w1 h2 (hv.gr g))
  rw [formD_C] at HR
  have HV := Lib.hid hv
  have HO := Lib.hid ho
  obtain ⟨A, c, rfl, l1, ⟨l2, _⟩, l3⟩ := hv
  obtain ⟨B, d, rfl, m1, ⟨m2, _⟩, m3⟩ := ho
  have m2' : d ≤ 9223372036854775807 := m2
  have HOC := Lib.hid m3
  obtain ⟨fc, hfc⟩ : ∃ x, x = formC L m ops := ⟨_, rfl⟩
  rw [← hfc] at HF HR
  have tf := bneI fc
  obtain ⟨N, hN⟩ : ∃ N, N = L.length := ⟨_, rfl⟩
  obtain ⟨n, hn⟩ : ∃ n, n = ops.length := ⟨_, rfl⟩
  have HN := Lib.hid hn
  have HNL := Lib.hid hN
  rw [← hN] at HC HR HS HV ⊢
  rw [← hn] at HR HO m1 hlo ⊢
  clear hN hn l1 l2 l3 m2 m3 hks hos hp hfc hl
  go_enter Tryd.func3, Tryd.ntmps3
  go_wp2_with fail
  refine HA.out.mono ?_
  rintro e w1 ⟨rfl, g⟩
  have HG1 := Lib.hid g
  clear g
  go_wp2_with fail
  refine (HC.out _ HG1.out).mono ?_
  rintro e w2 ⟨A2, c2, rfl, hu, g⟩
  have HG2 := Lib.hid (HG1.out.trans g)
  have HU2 := Lib.hid hu
  have HO2 := Lib.hid ((HO.out.gr HG2.out).gr (gr_box w2 (.cells #[] 30)))
  have hln : (0 + n) * 48 ≤ 140737488355328 := by omega
  clear g hu
  go_wp2_with (at_builtin; refine wpList_push_ops (w0 := w2) rfl (.tmp 14) (.tmp 15) rfl (.slice (some ⟨w2.heap.size, 0, none⟩) 0 0) (.slice B n d) [] ops 0 n rfl HN.out rfl (own_emptyO w2) rfl HO2.out hln (gr_box w2 _) ?_)
  intro A3 c3 w3 hown3 hg3 hgrow3
  have HG3 := Lib.hid (HG2.out.trans hg3)
  have HU3 := Lib.hid ((HU2.out.gr hg3).uv)
  have HO3 : Hid (TOV w3 (.slice A3 n c3) ops) := Lib.hid (TOO.tov hown3)
  obtain ⟨A3', c3', he3, q1, ⟨q2, _⟩, q3⟩ := HO3.out
  injection he3 with x1 x2 x3
  subst x1 x3
  have q2' : c3 ≤ 9223372036854775807 := q2
  have HOC3 := Lib.hid q3
  rw [← HN.out] at q1
  clear hown3 hg3 hgrow3 hln q2 q3 x2
  go_wp2_with fail
  refine (HF.out _ _ _ HG3.out HU3.out HO3.out).mono ?_
  rintro e w4 ⟨rfl, g⟩
  have HG4 := Lib.hid (HG3.out.trans g)
  have HX4 := Lib.hid g
  clear g
  go_wp2_with fail
  refine (HR.out _ HG4.out).mono ?_
  rintro e w5 ⟨rfl, g⟩
  have HG5 := Lib.hid (HG4.out.trans g)
  have HX5 := Lib.hid (HX4.out.trans g)
  clear g
  go_wp2_with fail
  refine (HS.out _ _ HG5.out (HU3.out.gr HX5.out)).mono ?_
  rintro e w6 ⟨rfl, g⟩
  have HG6 := Lib.hid (HG5.out.trans g)
  have HX6 := Lib.hid (HX5.out.trans g)
  clear g
  go_wp2_with fail
  go_loopw [9] (fun i wr => ∃ j : Nat, j ≤ n ∧ i = .int .i64 (j : Int) ∧ Gr w6 wr) (fun i _ => n - (intOf i).toNat)
  case atStart => exact ⟨0, Nat.zero_le _, rfl, Gr.refl _⟩
  case round =>
    obtain ⟨j, hj, rfl, hgr⟩ := hrel
    have HG := Lib.hid hgr
    by_cases hlt : j < n
    · have hjL : j < ops.length := by rw [← HN.out]; exact hlt
      obtain ⟨b, off, rfl, qa⟩ := HOC3.out j hjL
      obtain ⟨b', off', rfl, qb⟩ := HOC.out j hjL
      obtain ⟨f, hf⟩ : ∃ f, f = ops[j] := ⟨_, rfl⟩
      rw [← hf] at qa qb
      obtain ⟨a0, a1, a2, a3⟩ := (qa.gr HX6.out).gr hgr
      obtain ⟨c0, c1, c2', c3'⟩ := (qb.gr HG6.out).gr hgr
      have he := fun w => equal_to f f w
      rw [eqTO_self] at he
      unfold tovs at he
      have u0 : (0 : Int) ≤ (j : Int) := by omega
      have u1 : (j : Int) < (n : Int) := by omega
      have u2 : wrap64 ((j : Int) + 1) = ((j + 1 : Nat) : Int) := by unfold wrap64; omega
      clear hf qa qb hgr hjL
      go_wp2_with fail
      go_quiet (fail)
      go_wp2
      go_roundw
      case rel => exact ⟨j + 1, by omega, by go_num, HG.out.drewN _⟩
      case measure => simp [intOf]; omega
    · have u1 : ¬ (j : Int) < (n : Int) := by omega
      go_wp2_with fail
      go_ret
      exact ⟨rfl, HG6.out.trans hgr⟩
end Go.Proofs.YtioldhhnkeakcaaDoor
