/- Walks: copies of rules, Same of two like lists. -/
import Derived.Test.YtioldhhnkeakcaaDoorRuM
namespace Go.Proofs.YtioldhhnkeakcaaDoor
open Go.RowKit Go.Joins
set_option linter.unusedSimpArgs false
set_option linter.unusedVariables false

theorem fieldsRu : ∃ f0 f1 f2 f3 f4 : Field, Tryd.prog.fieldsOf 39 = #[f0, f1, f2, f3, f4] ∧ (f0.name ≠ "_" ∧ f1.name ≠ "_" ∧ f2.name ≠ "_" ∧ f3.name ≠ "_" ∧ f4.name ≠ "_") ∧ (f0.type = 3 ∧ f1.type = 9 ∧ f2.type = 9 ∧ f3.type = 2 ∧ f4.type = 2) ∧ f0.offset = 0 ∧ f1.offset = 1 ∧ f2.offset = 2 ∧ f3.offset = 3 ∧ f4.offset = 4 := by
  refine ⟨(Tryd.prog.fieldsOf 39)[0]'(by decide +kernel), (Tryd.prog.fieldsOf 39)[1]'(by decide +kernel), (Tryd.prog.fieldsOf 39)[2]'(by decide +kernel), (Tryd.prog.fieldsOf 39)[3]'(by decide +kernel), (Tryd.prog.fieldsOf 39)[4]'(by decide +kernel), by kernel_rfl, ⟨by decide +kernel, by decide +kernel, by decide +kernel, by decide +kernel, by decide +kernel⟩, ⟨by kernel_rfl, by kernel_rfl, by kernel_rfl, by kernel_rfl, by kernel_rfl⟩, by kernel_rfl, by kernel_rfl, by kernel_rfl, by kernel_rfl, by kernel_rfl⟩
theorem part_ru (o : RU) (w : World) : (part 3 (ruv o) 0).run Tryd.prog w = .ok (.int .i64 o.k) w ∧ (part 9 (ruv o) 1).run Tryd.prog w = .ok (.string o.key) w ∧ (part 9 (ruv o) 2).run Tryd.prog w = .ok (.string o.other) w ∧ (part 2 (ruv o) 3).run Tryd.prog w = .ok (.int .i64 o.min) w ∧ (part 2 (ruv o) 4).run Tryd.prog w = .ok (.int .i64 o.start) w := by
  refine ⟨?_, ?_, ?_, ?_, ?_⟩ <;> (show _ = _; kernel_rfl)
theorem equal_ru (f : RU) (w : World) : (Op.equalIn 10000 39 (.agg (ruv f)) (.agg (ruv f))).run Tryd.prog w = .ok true w := by
  obtain ⟨f0, f1, f2, f3, f4, hf, ⟨n0, n1, n2, n3, n4⟩, ⟨t0, t1, t2, t3, t4⟩, o0, o1, o2, o3, o4⟩ := fieldsRu
  obtain ⟨p0, p1, p2, p3, p4⟩ := part_ru f w
  rw [run_equalIn_struct w 9999 _ _ _ (by kernel_rfl) (by kernel_rfl), hf]
  simp only [Op.eqFields, n0, n1, n2, n3, n4, t0, t1, t2, t3, t4, o0, o1, o2, o3, o4, if_true, ne_eq, not_false_eq_true, Sem.run_bind, p0, p1, p2, p3, p4, Result.andThen_ok, run_equalIn_string w 9998 9 _ _ Tryd.underlying9, run_equalIn_int w 9998 3 _ _ _ _ Tryd.underlying3, run_equalIn_int w 9998 2 _ _ _ _ Tryd.underlying2, Sem.run_ite, Sem.run_pure]
  simp
set_option maxRecDepth 100000 in
set_option maxHeartbeats 1000000 in
theorem same14_any (va vb : Value) (L : List RU) (w : World) (ha : UV w va L) (hb : UV w vb L) :
    Calls Tryd.prog 9 #[va, vb] w fun e w' => e = .returned (.bool true) ∧ Gr w w' := by
  obtain ⟨A, ca, rfl, la1, ⟨la2, _⟩, la3⟩ := ha
  obtain ⟨B, cb, rfl, lb1, ⟨lb2, _⟩, lb3⟩ := hb
  have la2' : ca ≤ 9223372036854775807 := la2
  have lb2' : cb ≤ 9223372036854775807 := lb2
  have HA := Lib.hid la3
  have HB := Lib.hid lb3
  obtain ⟨n, hn⟩ : ∃ n, n = L.length := ⟨_, rfl⟩
  have HN := Lib.hid hn
  rw [← hn] at la1 lb1 ⊢
  have ht : ((n : Int) != (n : Int)) = false := by simp
  clear hn la2 lb2 la3 lb3
  go_enter Tryd.func9, Tryd.ntmps9
  go_wp2_with fail
  go_loopw [5] (fun i wr => ∃ j : Nat, j ≤ n ∧ i = .int .i64 (j : Int) ∧ Gr w wr) (fun i _ => n - (intOf i).toNat)
  case atStart => exact ⟨0, Nat.zero_le _, rfl, Gr.refl _⟩
  case round =>
    obtain ⟨j, hj, rfl, hgr⟩ := hrel
    have HG := Lib.hid hgr
    by_cases hlt : j < n
    · have hjL : j < L.length := by rw [← HN.out]; exact hlt
      obtain ⟨b, off, rfl, qa⟩ := HA.out j hjL
      obtain ⟨b', off', rfl, qb⟩ := HB.out j hjL
      obtain ⟨f, hf⟩ : ∃ f, f = L[j] := ⟨_, rfl⟩
      rw [← hf] at qa qb
      obtain ⟨a0, a1, a2, a3, a4⟩ := qa.gr hgr
      obtain ⟨c0, c1, c2, c3, c4⟩ := qb.gr hgr
      have he := fun w => equal_ru f w
      have u0 : (0 : Int) ≤ (j : Int) := by omega
      have u1 : (j : Int) < (n : Int) := by omega
      have u2 : wrap64 ((j : Int) + 1) = ((j + 1 : Nat) : Int) := by unfold wrap64; omega
      clear hf qa qb hgr hjL
      go_wp2_with fail
      go_quiet (fail)
      go_wp2
      go_roundw
      case rel => exact ⟨j + 1, by omega, by go_num, HG.out.drewN _⟩
      case measure => simp [intOf]; omega
    · have u1 : ¬ (j : Int) < (n : Int) := by omega
      go_wp2_with fail
      go_ret
      exact ⟨rfl, hgr⟩
theorem own_emptyU (w : World) : UO (w.alloc (.cells #[] 39)) w.heap.size (.slice (some ⟨w.heap.size, 0, none⟩) 0 0) [] :=
  World.ownsRow_made w #[] 0 (Nat.le_refl _) (Nat.zero_le _) rfl
set_option maxRecDepth 100000 in
theorem copied14_any (v : Value) (L : List RU) (hlen : (L.length + 1) * 56 ≤ 140737488355328) (w : World) (hv : UV w v L) :
    Calls Tryd.prog 6 #[v] w fun e w' => ∃ A c, e = .returned (.slice A L.length c) ∧ UO w' w.heap.size (.slice A L.length c) L ∧ Gr w w' := by
  have HV := Lib.hid (hv.gr (gr_box w (.cells #[] 39)))
  obtain ⟨A, c, rfl, -, -, -⟩ := hv
  obtain ⟨n, hn⟩ : ∃ n, n = L.length := ⟨_, rfl⟩
  have HN := Lib.hid hn
  rw [← hn] at HV ⊢
  clear hn
  go_enter Tryd.func6, Tryd.ntmps6
  go_wp2_with (at_builtin; refine wpList_push_u (w0 := w) rfl (.tmp 3) (.tmp 4) rfl (.slice (some ⟨w.heap.size, 0, none⟩) 0 0) (.slice A n c) [] L 0 n rfl HN.out rfl (own_emptyU w) rfl HV.out (by have := HN.out; omega) (gr_box w _) ?_)
  intro A9 c9 w9 hown9 hg9 hgrow9
  have HO := Lib.hid hown9
  have HG := Lib.hid hg9
  clear hown9 hg9 hgrow9
  go_wp2_with fail
  go_ret
  exact ⟨A9, c9, by simp, by have := HO.out; simpa using this, HG.out⟩
end Go.Proofs.YtioldhhnkeakcaaDoor
