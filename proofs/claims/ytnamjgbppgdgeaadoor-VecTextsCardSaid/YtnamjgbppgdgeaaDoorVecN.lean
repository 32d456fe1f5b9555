/- Walks over the document's own answers for layer 2: number. -/
import Derived.Test.YtnamjgbppgdgeaaDoorVecR
import Derived.Test.YtnamjgbppgdgeaaDoorVecD
namespace Go.Proofs.YtnamjgbppgdgeaaDoor
open Go.RowKit Go.Joins

def NumRel (s : ByteArray) (n i : Value) : Prop :=
  ∃ k : Nat, k ≤ s.size ∧ i = .int .i64 k ∧ n = .int .u64 (PV.val 0 (s.data.toList.take k) : Nat) ∧ PV.val 0 (s.data.toList.take k) < 18446744073709551616 ∧ ∀ c ∈ s.data.toList.take k, PV.isDig c
theorem take_at (s : ByteArray) (k : Nat) (h : k < s.size) : s.data.toList.take (k + 1) = s.data.toList.take k ++ [s[k]] := by
  rw [List.take_succ_eq_append_getElem (by simpa using h)]; rfl
theorem mem_at (s : ByteArray) (k : Nat) (h : k < s.size) : s[k] ∈ s.data.toList := by
  have := take_at s k h
  exact List.mem_of_mem_take (i := k + 1) (by rw [this]; simp)

set_option maxRecDepth 100000 in
set_option maxHeartbeats 1000000 in
theorem rnumber_loop (s : ByteArray) (hs : s.size ≤ 20) (h1 : 1 ≤ s.size) (hz : ¬ (1 < s.data.toList.length ∧ s.data.toList.headD 0 = 48)) (w : World)
    (t1 : decide ((s.size : Int) < 1) = false) (t2 : decide ((20 : Int) < (s.size : Int)) = false)
    (t3 : (decide ((1 : Int) < (s.size : Int)) = false) ∨ ((1 : Int) < (s.size : Int) ∧ ((s[0].toNat : Int) == 48) = false)) :
    Calls Tryd.prog 33 #[.string s] w fun e w' => e = .returned (numVal (PV.numL s.data.toList)) ∧ Gr w w' := by
  have HZ := Lib.hid hz
  have hne : s.data.toList ≠ [] := fun e => by have h := congrArg List.length e; rw [Array.length_toList] at h; change s.size = 0 at h; omega
  have HNE := Lib.hid hne
  have g0 : 0 < s.size := by omega
  have i0 : (0 : Int) < (s.size : Int) := by omega
  clear hz hne
  rcases t3 with t3 | ⟨t3, t4⟩
  all_goals
    go_enter Tryd.func33, Tryd.ntmps33
    go_wp2_with fail
    go_loop [4, 5] (fun n i => NumRel s n i) (fun _ i => s.size - (intOf i).toNat)
    case atStart => exact ⟨0, Nat.zero_le _, rfl, rfl, by simp [PV.val], fun c hc => (by simp at hc)⟩
    case round =>
      obtain ⟨k, hk, rfl, rfl, hv, hd⟩ := hrel
      obtain ⟨v, hv0⟩ : ∃ v, v = PV.val 0 (s.data.toList.take k) := ⟨_, rfl⟩
      rw [← hv0] at hv ⊢
      have HV := Lib.hid hv0
      have HD := Lib.hid hd
      have hk0 : (0 : Int) ≤ (k : Int) := Int.natCast_nonneg _
      clear hd hv0
      by_cases hlt : k < s.size
      · have hkl : (k : Int) < (s.size : Int) := by omega
        have hb := s[k].toNat_lt
        by_cases h48 : s[k].toNat < 48
        · have HN := Lib.hid (PV.numL_none_dig (mem_at s k hlt) (fun h => by unfold PV.isDig at h; omega))
          have e1 : decide ((s[k].toNat : Int) < 48) = true := decide_eq_true (by omega)
          clear h48 hb
          go_wp2_with fail
          go_ret2
          exact ⟨by rw [HN.out]; rfl, Gr.refl _⟩
        · by_cases h57 : 57 < s[k].toNat
          · have HN := Lib.hid (PV.numL_none_dig (mem_at s k hlt) (fun h => by unfold PV.isDig at h; omega))
            have e1 : decide ((s[k].toNat : Int) < 48) = false := decide_eq_false (by omega)
            have e2 : (57 : Int) < (s[k].toNat : Int) := by omega
            clear h48 hb h57
            go_wp2_with fail
            go_ret2
            exact ⟨by rw [HN.out]; rfl, Gr.refl _⟩
          · have e1 : (48 : Int) ≤ (s[k].toNat : Int) := by omega
            have e2 : (s[k].toNat : Int) ≤ 57 := by omega
            have HTS := Lib.hid (take_at s k hlt)
            clear h48 h57 hb
            go_wp2_with fail
            · have hov : (18446744073709551615 - ((s[k].toNat : Int) - 48)) / 10 < (v : Int) := by assumption
              have hN : PV.numL s.data.toList = none := by
                rw [← List.take_append_drop (k + 1) s.data.toList]
                refine PV.numL_none_val ?_
                rw [HTS.out, PV.val_snoc, ← HV.out]
                omega
              go_ret2
              exact ⟨by rw [hN]; rfl, Gr.refl _⟩
            · have hno : (v : Int) ≤ (18446744073709551615 - ((s[k].toNat : Int) - 48)) / 10 := by assumption
              go_round
              case rel =>
                refine ⟨k + 1, by omega, by go_num, ?_, ?_, ?_⟩
                · rw [HTS.out, PV.val_snoc, ← HV.out]
                  congr 1
                  omega
                · rw [HTS.out, PV.val_snoc, ← HV.out]
                  omega
                · intro c hc
                  rw [HTS.out] at hc
                  rcases List.mem_append.1 hc with hc | hc
                  · exact HD.out c hc
                  · obtain rfl := List.mem_singleton.1 hc
                    unfold PV.isDig
                    omega
              case measure => simp [intOf]; omega
      · have hk2 : k = s.size := by omega
        have hall : s.data.toList.take k = s.data.toList := List.take_of_length_le (by rw [Array.length_toList]; show s.size ≤ k; omega)
        have HN := Lib.hid (show PV.numL s.data.toList = some v from by
          have h1 := HV.out
          have h2 := HD.out
          rw [hall] at h1 h2
          rw [PV.numL_of HNE.out HZ.out h2 (by rw [← h1]; exact hv), h1])
        clear hall hv
        go_wp2_with fail
        go_ret2
        exact ⟨by rw [HN.out]; rfl, Gr.refl _⟩

set_option maxRecDepth 100000 in
theorem rnumber_any (s : ByteArray) (hs : s.size ≤ 140737488355328) (w : World) :
    Calls Tryd.prog 33 #[.string s] w fun e w' => e = .returned (numVal (PV.numL s.data.toList)) ∧ Gr w w' := by
  have hlen : s.data.toList.length = s.size := by rw [Array.length_toList]; rfl
  by_cases h1 : 1 ≤ s.size
  · by_cases h20 : s.size ≤ 20
    · by_cases h2 : 1 < s.size
      · have hhd := head_at (s := s) (by omega)
        by_cases h0 : s[0] = 48
        · have HN := Lib.hid (PV.numL_none_zero (l := s.data.toList) (by rw [hlen]; exact h2) (by rw [hhd]; exact h0))
          have e0 : ((s[0].toNat : Int) == 48) = true := by rw [h0]; rfl
          have e1 : (1 : Int) < (s.size : Int) := by omega
          have t1 : decide ((s.size : Int) < 1) = false := decide_eq_false (by omega)
          have t2 : decide ((20 : Int) < (s.size : Int)) = false := decide_eq_false (by omega)
          have g0 : 0 < s.size := by omega
          have i0 : (0 : Int) < (s.size : Int) := by omega
          clear hlen hhd h0 h20 hs
          go_enter Tryd.func33, Tryd.ntmps33
          go_wp2_with fail
          go_ret2
          exact ⟨by rw [HN.out]; rfl, Gr.refl _⟩
        · refine rnumber_loop s h20 h1 (fun ⟨_, b⟩ => h0 (by rw [← hhd]; exact b)) w (decide_eq_false (by omega)) (decide_eq_false (by omega)) (Or.inr ⟨by omega, ?_⟩)
          rw [beq_eq_false_iff_ne]
          intro e
          exact h0 (UInt8.toNat_inj.1 (by have : (48 : UInt8).toNat = 48 := rfl; omega))
      · exact rnumber_loop s h20 h1 (fun ⟨a, _⟩ => h2 (by rw [← hlen]; exact a)) w (decide_eq_false (by omega)) (decide_eq_false (by omega)) (Or.inl (decide_eq_false (by omega)))
    · have HN := Lib.hid (PV.numL_none_long (l := s.data.toList) digits_len (by rw [hlen]; omega))
      have t1 : decide ((s.size : Int) < 1) = false := decide_eq_false (by omega)
      have t2 : (20 : Int) < (s.size : Int) := by omega
      clear hlen h1 h20 hs
      go_enter Tryd.func33, Tryd.ntmps33
      go_wp2_with fail
      go_ret2
      exact ⟨by rw [HN.out]; rfl, Gr.refl _⟩
  · have hnil : s.data.toList = [] := List.length_eq_zero_iff.1 (by omega)
    have HN := Lib.hid (show PV.numL s.data.toList = none from by rw [hnil]; exact PV.numL_none_nil)
    have t1 : (s.size : Int) < 1 := by omega
    clear hlen h1 hs hnil
    go_enter Tryd.func33, Tryd.ntmps33
    go_wp2_with fail
    go_ret2
    exact ⟨by rw [HN.out]; rfl, Gr.refl _⟩
end Go.Proofs.YtnamjgbppgdgeaaDoor
