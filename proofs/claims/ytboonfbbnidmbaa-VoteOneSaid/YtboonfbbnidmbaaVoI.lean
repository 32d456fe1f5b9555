/- Walk: the document's Majority. -/
import Derived.Test.YtboonfbbnidmbaaVoC
namespace Go.Proofs.Ytboonfbbnidmbaa
open Go.RowKit Vo
set_option linter.unusedSimpArgs false

theorem among_next (K : List Int) {j : Nat} (hj : j < K.length) (k : Nat) : among (K.take (j + 1)) k = (among (K.take j) k || decide (K[j] = (k : Int))) := by
  rw [take_next K hj]
  unfold among
  rw [List.any_append]
  simp only [List.any_cons, List.any_nil, Bool.or_false]
theorem among_take {K : List Int} {j k : Nat} (h : among (K.take j) k = true) : among K k = true := by
  unfold among at *
  rw [List.any_eq_true] at *
  obtain ⟨x, h1, h2⟩ := h
  exact ⟨x, List.mem_of_mem_take h1, h2⟩
set_option maxRecDepth 100000 in
set_option maxHeartbeats 1000000 in
theorem rmajority_any (S : Nat → Bool) (v : Value) (K : List Int) (w : World) (hv : NV w v K) :
    Calls Try.prog 19 #[.agg (setc S), v] w fun e w' => e = .returned (.bool (majB S (among K))) ∧ Gr w w' := by
  obtain ⟨W, hW, hg, hX, hA⟩ := box_set S w
  obtain ⟨A, c, rfl, h1, h2, h3⟩ := hv.form
  obtain ⟨n, hn⟩ : ∃ n, n = K.length := ⟨_, rfl⟩
  rw [← hn] at h1 ⊢
  have HN := Lib.hid hn
  have HV := Lib.hid (fun j hj => by
    obtain ⟨b, off, e, hc⟩ := h3 j hj
    exact (show ∃ b off, A = some ⟨b, off, none⟩ ∧ W.cell? ⟨b, off + j, none⟩ = some (.int .i64 K[j]) from ⟨b, off, e, hg.cell hc⟩))
  have HG := Lib.hid hg
  have HA := Lib.hid hA
  clear hX hg hA hv h3 hn
  go_enter Try.func19, Try.ntmps19
  go_upto_region 1 with (fail)
  rw [← hW]
  clear hW
  go_wp2_with fail
  go_loop [5, 6, 7, 8] (fun a s m _ => ∃ (k x y : Nat), k ≤ 8 ∧ m = .int .i64 (k : Int) ∧ a = .int .i64 (x : Int) ∧ s = .int .i64 (y : Int) ∧ x ≤ k ∧ y ≤ k ∧ Hid (x = cnt S k ∧ y = cnt (fun m => S m && among K m) k)) (fun _ _ m _ => 8 - (intOf m).toNat)
  case atStart => exact ⟨0, 0, 0, by decide, rfl, rfl, rfl, Nat.le_refl _, Nat.le_refl _, Lib.hid ⟨rfl, rfl⟩⟩
  case round =>
    obtain ⟨k, x, y, hk, rfl, rfl, rfl, hxk, hyk, HXY⟩ := hrel
    by_cases hlt : k < 8
    · have hk0 : (0 : Int) ≤ (k : Int) := Int.natCast_nonneg _
      have hk8 : (k : Int) < 8 := by omega
      have hcell := HA.out k hlt
      rcases (by cases S k <;> simp : S k = false ∨ S k = true) with hS | hS
      · rw [hS] at hcell
        have HXY2 : Hid (x = cnt S (k + 1) ∧ y = cnt (fun m => S m && among K m) (k + 1)) := Lib.hid ⟨by rw [cnt8, hS, HXY.out.1]; rfl, by rw [cnt8, hS, HXY.out.2]; rfl⟩
        clear hS
        go_wp2_with fail
        go_round
        case rel => exact ⟨k + 1, x, y, by omega, by go_num, rfl, rfl, by omega, by omega, HXY2⟩
        case measure => simp [intOf]; omega
      · rw [hS] at hcell
        have HS := Lib.hid hS
        clear hS
        go_wp2_with fail
        go_loop [6, 8] (fun s i => ∃ j : Nat, j ≤ n ∧ i = .int .i64 (j : Int) ∧ s = .int .i64 (y : Int) ∧ Hid (among (K.take j) k = false)) (fun _ i => n - (intOf i).toNat)
        case atStart => exact ⟨0, Nat.zero_le _, rfl, rfl, Lib.hid rfl⟩
        case round =>
          obtain ⟨j, hj, rfl, rfl, HJ⟩ := hrel
          by_cases hjlt : j < n
          · have hjK : j < K.length := by rw [← HN.out]; exact hjlt
            obtain ⟨b, off, rfl, hm⟩ := HV.out j hjK
            obtain ⟨z, hz⟩ : ∃ z, z = K[j] := ⟨_, rfl⟩
            rw [← hz] at hm
            have HZ := Lib.hid hz
            have hj0 : (0 : Int) ≤ (j : Int) := Int.natCast_nonneg _
            clear hz
            by_cases heq : z = (k : Int)
            · have HXY2 : Hid (x + 1 = cnt S (k + 1) ∧ y + 1 = cnt (fun m => S m && among K m) (k + 1)) := Lib.hid (by
                have ha : among K k = true := among_take (j := j + 1) (by rw [among_next K hjK, ← HZ.out, heq, decide_eq_true rfl, Bool.or_true])
                exact ⟨by rw [cnt8, HS.out, HXY.out.1]; rfl, by rw [cnt8, HS.out, ha, HXY.out.2]; rfl⟩)
              have t1 : (z == (k : Int)) = true := by rw [heq]; simp
              clear heq HZ hjK
              go_wp2_with fail
              go_round
              case rel => exact ⟨k + 1, x + 1, y + 1, by omega, by go_num, by go_num, by go_num, by omega, by omega, HXY2⟩
              case measure => simp [intOf]; omega
            · have t1 : (z == (k : Int)) = false := by simpa using heq
              have HJ2 : Hid (among (K.take (j + 1)) k = false) := Lib.hid (by rw [among_next K hjK, HJ.out, ← HZ.out, decide_eq_false heq]; rfl)
              clear heq HZ hjK
              go_wp2_with fail
              go_round
              case rel => exact ⟨j + 1, hjlt, by go_num, rfl, HJ2⟩
              case measure => simp [intOf]; omega
          · obtain rfl : j = n := by omega
            have HXY2 : Hid (x + 1 = cnt S (k + 1) ∧ y = cnt (fun m => S m && among K m) (k + 1)) := Lib.hid (by
              have ha : among K k = false := by
                have h := HJ.out
                rw [List.take_of_length_le (by rw [← HN.out]; exact Nat.le_refl _)] at h
                exact h
              exact ⟨by rw [cnt8, HS.out, HXY.out.1]; rfl, by rw [cnt8, HS.out, ha, HXY.out.2]; rfl⟩)
            go_wp2_with fail
            go_round
            case rel => exact ⟨k + 1, x + 1, y, by omega, by go_num, by go_num, rfl, by omega, by omega, HXY2⟩
            case measure => simp [intOf]; omega
    · obtain rfl : k = 8 := by omega
      have HR : Hid (majB S (among K) = decide ((x : Int) < 2 * (y : Int))) := Lib.hid (by rw [HXY.out.1, HXY.out.2]; unfold majB; exact decide_eq_decide.2 (by omega))
      go_wp2_with fail
      go_ret
      exact ⟨by rw [HR.out]; rfl, HG.out⟩
end Go.Proofs.Ytboonfbbnidmbaa
