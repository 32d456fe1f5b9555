/- Walk: the document's Whole. -/
import Derived.Test.YtioldhhnkeakcaaDoorRuQ
namespace Go.Proofs.YtioldhhnkeakcaaDoor.PV
theorem val_lt : ∀ {l : List UInt8}, (∀ c ∈ l, isDig c) → val 0 l < 10 ^ l.length := by
  intro l
  have key : ∀ (l : List UInt8) (a : Nat), (∀ c ∈ l, isDig c) → val a l < (a + 1) * 10 ^ l.length := by
    intro l
    induction l with
    | nil => intro a _; simp [val]
    | cons c r ih =>
      intro a h
      rw [val_cons]
      have hc := h c (by simp)
      have := ih (a * 10 + (c.toNat - 48)) (fun x hx => h x (by simp [hx]))
      unfold isDig at hc
      refine Nat.lt_of_lt_of_le this ?_
      rw [List.length_cons, Nat.pow_succ, Nat.mul_comm (10 ^ r.length) 10, ← Nat.mul_assoc]
      exact Nat.mul_le_mul_right _ (by omega)
  intro h
  have := key l 0 h
  simpa using this
theorem neg_none {l : List UInt8} (h : (∀ c ∈ l, isDig c) → l ≠ [] → ¬ l.headD 0 ≠ 48) : wholeL (45 :: l) = none :=
  wholeL_none fun n _ e => by
    obtain ⟨d, hd, h1, h2, h3⟩ := itoa_head e
    rcases hd with hd | ⟨hd, h4⟩
    · have := h1 45 (by rw [← hd]; simp)
      unfold isDig at this
      have e45 : (45 : UInt8).toNat = 45 := rfl
      omega
    · injection hd with _ hd
      subst hd
      exact h h1 h2 h4
theorem pos_none {l : List UInt8} (h : (∀ c ∈ l, isDig c) → l ≠ [] → ¬ (l.length = 1 ∨ l.headD 0 ≠ 48)) (h45 : ∀ r, l ≠ 45 :: r) : wholeL l = none :=
  wholeL_none fun n _ e => by
    obtain ⟨d, hd, h1, h2, h3⟩ := itoa_head e
    rcases hd with hd | ⟨hd, h4⟩
    · subst hd
      exact h h1 h2 h3
    · exact h45 _ hd
theorem pos_long {l : List UInt8} (h : 13 < l.length) (h45 : ∀ r, l ≠ 45 :: r) : wholeL l = none :=
  wholeL_none fun n hn e => by
    by_cases h0 : n < 0
    · rw [itoa_minus h0] at e
      exact h45 _ e.symm
    · rw [itoa_pos (by omega)] at e
      unfold inA at hn
      have := dec_len (n := n.toNat) (by omega)
      rw [e] at this
      omega
end Go.Proofs.YtioldhhnkeakcaaDoor.PV
namespace Go.Proofs.YtioldhhnkeakcaaDoor
open Go.RowKit Go.Joins
set_option linter.unusedSimpArgs false
set_option linter.unusedVariables false

theorem take_atR (s : ByteArray) (k : Nat) (h : k < s.size) : s.data.toList.take (k + 1) = s.data.toList.take k ++ [s[k]] := by
  rw [List.take_succ_eq_append_getElem (by simpa using h)]; rfl
theorem mem_atR (s : ByteArray) (k : Nat) (h : k < s.size) : s[k] ∈ s.data.toList := by
  have := take_atR s k h
  exact List.mem_of_mem_take (i := k + 1) (by rw [this]; simp)
theorem headD_at (d : ByteArray) (h : 0 < d.size) : d.data.toList.headD 0 = d[0] := by
  have := take_atR d 0 h
  cases hx : d.data.toList with
  | nil => rw [hx] at this; simp at this
  | cons a r => rw [hx] at this; simpa using this
theorem headR {d : ByteArray} (h : ∀ h : 0 < d.size, d[0] ≠ 45) : ∀ r, d.data.toList ≠ 45 :: r := fun r e => by
  have hz : 0 < d.size := by
    have := congrArg List.length e
    rw [Array.length_toList] at this
    have h2 : d.size = r.length + 1 := this
    omega
  have := headD_at d hz
  rw [e] at this
  exact h hz this.symm
theorem first45 {d : ByteArray} (h : ∀ h : 0 < d.size, d[0] ≠ 45) (hz : 0 < d.size) : ((d[0].toNat : Int) == 45) = false :=
  int_beq_f (fun e => h hz (UInt8.toNat_inj.1 (by have : (45 : UInt8).toNat = 45 := rfl; omega)))
set_option maxRecDepth 100000 in
set_option maxHeartbeats 4000000 in
theorem rwhole_pos (d : ByteArray) (hs : d.size ≤ 281474976710656) (h45 : ∀ h : 0 < d.size, d[0] ≠ 45) (w : World) :
    Calls Tryd.prog 43 #[.string d] w fun e w' => e = .returned (wholeVal (PV.wholeL d.data.toList)) ∧ Gr w w' := by
  have hlen : d.data.toList.length = d.size := by rw [Array.length_toList]; rfl
  have HBAD : Hid (∀ c ∈ d.data.toList, ¬ PV.isDig c → PV.wholeL d.data.toList = none) := Lib.hid (fun c hc hd => PV.pos_none (fun ds _ _ => hd (ds c hc)) (headR h45))
  by_cases hz : d.size = 0
  · have HN := Lib.hid (PV.pos_none (l := d.data.toList) (fun _ h _ => h (List.length_eq_zero_iff.1 (by omega))) (headR h45))
    have z1 : (d.size : Int) < 1 := by omega
    have z0 : ¬ (0 : Int) < (d.size : Int) := by omega
    clear hlen HBAD h45
    go_enter Tryd.func43, Tryd.ntmps43
    go_upto_region 4 with (fail)
    go_wp2_with fail
    go_ret2
    exact ⟨by rw [HN.out]; rfl, Gr.refl _⟩
  have g0 : 0 < d.size := by omega
  by_cases h13 : 13 < d.size
  · have HN := Lib.hid (PV.pos_long (l := d.data.toList) (by omega) (headR h45))
    have z2 : (13 : Int) < (d.size : Int) := by omega
    have z1 : ¬ (d.size : Int) < 1 := by omega
    have i0 : (0 : Int) < (d.size : Int) := by omega
    have a0 := first45 h45 (by omega)
    clear hlen HBAD h45
    go_enter Tryd.func43, Tryd.ntmps43
    go_upto_region 4 with (fail)
    go_wp2_with fail
    go_ret2
    exact ⟨by rw [HN.out]; rfl, Gr.refl _⟩
  by_cases h1 : 1 < d.size
  · by_cases hz0 : d[0] = 48
    · have HN := Lib.hid (PV.pos_none (l := d.data.toList) (fun _ _ h => by rcases h with h | h; omega; exact h (by rw [headD_at d g0]; exact hz0)) (headR h45))
      have e0 : ((d[0].toNat : Int) == 48) = true := by rw [hz0]; rfl
      have i2 : (1 : Int) < (d.size : Int) := by omega
      have j0 : (0 : Int) < (d.size : Int) := by omega
      have z1 : ¬ (d.size : Int) < 1 := by omega
      have z2 : ¬ (13 : Int) < (d.size : Int) := by omega
      have a0 := first45 h45 (by omega)
      clear hlen HBAD h45 hz0
      go_enter Tryd.func43, Tryd.ntmps43
      go_upto_region 4 with (fail)
      go_wp2_with fail
      go_ret2
      exact ⟨by rw [HN.out]; rfl, Gr.refl _⟩
    · have hne : d.data.toList ≠ [] := fun e => by rw [e] at hlen; have : (0 : Nat) = d.size := hlen; omega
      have hh : d.data.toList.length = 1 ∨ d.data.toList.headD 0 ≠ 48 := .inr (by rw [headD_at d g0]; exact hz0)
      have HGOOD := Lib.hid (fun hd2 : ∀ c ∈ d.data.toList, PV.isDig c => PV.wholeL_digits hd2 hne hh)
      have HSZ := Lib.hid (show d.size ≤ 13 by omega)
      have z1 : ¬ (d.size : Int) < 1 := by omega
      have z2 : ¬ (13 : Int) < (d.size : Int) := by omega
      have j0 : (0 : Int) < (d.size : Int) := by omega
      have i2 : (1 : Int) < (d.size : Int) := by omega
      have e0 : ((d[0].toNat : Int) == 48) = false := int_beq_f (fun e => hz0 (UInt8.toNat_inj.1 (by have : (48 : UInt8).toNat = 48 := rfl; omega)))
      have a0 := first45 h45 (by omega)
      clear hlen hne hh hz0 h45
      go_enter Tryd.func43, Tryd.ntmps43
      go_upto_region 4 with (fail)
      go_wp2_with fail
      go_loop [5, 6] (fun n i => ∃ k : Nat, k ≤ d.size ∧ i = .int .i64 (k : Int) ∧ n = .int .i64 ((PV.val 0 (d.data.toList.take k) : Nat) : Int) ∧ ∀ c ∈ d.data.toList.take k, PV.isDig c) (fun _ i => d.size - (intOf i).toNat)
      case atStart => exact ⟨0, Nat.zero_le _, rfl, by simp [PV.val], fun c hc => (by simp at hc)⟩
      case round =>
        obtain ⟨k, hk, rfl, rfl, hdg⟩ := hrel
        have hvl := PV.val_lt hdg
        have hpw : 10 ^ (d.data.toList.take k).length ≤ 10 ^ 13 := Nat.pow_le_pow_right (by decide) (by rw [List.length_take, Array.length_toList]; show min k d.size ≤ 13; have := HSZ.out; omega)
        obtain ⟨v, hv0⟩ : ∃ v, v = PV.val 0 (d.data.toList.take k) := ⟨_, rfl⟩
        rw [← hv0] at hvl ⊢
        have hv : v < 10000000000000 := Nat.lt_of_lt_of_le hvl hpw
        have HV := Lib.hid hv0
        have HD := Lib.hid hdg
        have hk0 : (0 : Int) ≤ (k : Int) := Int.natCast_nonneg _
        clear hdg hv0 hvl hpw
        by_cases hlt : k < d.size
        · have hkl : (k : Int) < (d.size : Int) := by omega
          have hb := d[k].toNat_lt
          by_cases h48 : d[k].toNat < 48
          · have HN := Lib.hid (HBAD.out _ (mem_atR d k hlt) (fun h => by unfold PV.isDig at h; omega))
            have e1 : decide ((d[k].toNat : Int) < 48) = true := decide_eq_true (by omega)
            clear h48 hb
            go_wp2_with fail
            go_ret2
            exact ⟨by rw [HN.out]; rfl, Gr.refl _⟩
          · by_cases h57 : 57 < d[k].toNat
            · have HN := Lib.hid (HBAD.out _ (mem_atR d k hlt) (fun h => by unfold PV.isDig at h; omega))
              have e1 : decide ((d[k].toNat : Int) < 48) = false := decide_eq_false (by omega)
              have e2 : (57 : Int) < (d[k].toNat : Int) := by omega
              clear h48 hb h57
              go_wp2_with fail
              go_ret2
              exact ⟨by rw [HN.out]; rfl, Gr.refl _⟩
            · have e1 : (48 : Int) ≤ (d[k].toNat : Int) := by omega
              have e2 : (d[k].toNat : Int) ≤ 57 := by omega
              have HTS := Lib.hid (take_atR d k hlt)
              have w1 : wrap64 ((v : Int) * 10) = (v : Int) * 10 := by unfold wrap64; omega
              have w2 : wrap64 ((v : Int) * 10 + ((d[k].toNat : Int) - 48)) = (v : Int) * 10 + ((d[k].toNat : Int) - 48) := by unfold wrap64; omega
              have w3 : wrap64 ((k : Int) + 1) = ((k + 1 : Nat) : Int) := by unfold wrap64; omega
              clear h48 h57 hb
              go_wp2_with fail
              go_round
              case rel =>
                refine ⟨k + 1, by omega, by go_num, ?_, ?_⟩
                · rw [HTS.out, PV.val_snoc, ← HV.out]
                  congr 1
                  omega
                · intro c hc
                  rw [HTS.out] at hc
                  rcases List.mem_append.1 hc with hc | hc
                  · exact HD.out c hc
                  · obtain rfl := List.mem_singleton.1 hc
                    unfold PV.isDig
                    omega
              case measure => simp [intOf]; omega
        · have hk2 : k = d.size := by omega
          have hall : d.data.toList.take k = d.data.toList := List.take_of_length_le (by rw [Array.length_toList]; show d.size ≤ k; omega)
          have HN := Lib.hid (HGOOD.out (by have h2 := HD.out; rw [hall] at h2; exact h2))
          have h1 := HV.out
          rw [hall] at h1
          rw [← h1] at HN
          clear hall h1
          by_cases hbig : v ≤ 1099511627776
          · have HN2 : Hid (PV.wholeL d.data.toList = some ((v : Int))) := Lib.hid (by rw [HN.out, if_pos hbig])
            have t9 : ¬ (1099511627776 : Int) < (v : Int) := by omega
            have t8 : wrap64 (-(v : Int)) = -(v : Int) := by unfold wrap64; omega
            have t7 : ¬ (d.size : Int) < (d.size : Int) := by omega
            subst hk2
            go_wp2_with fail
            go_ret2
            exact ⟨by rw [HN2.out]; rfl, Gr.refl _⟩
          · have HN2 : Hid (PV.wholeL d.data.toList = none) := Lib.hid (by rw [HN.out, if_neg hbig])
            have t9 : (1099511627776 : Int) < (v : Int) := by omega
            subst hk2
            go_wp2_with fail
            go_ret2
            exact ⟨by rw [HN2.out]; rfl, Gr.refl _⟩
  · have hne : d.data.toList ≠ [] := fun e => by rw [e] at hlen; have : (0 : Nat) = d.size := hlen; omega
    have hh : d.data.toList.length = 1 ∨ d.data.toList.headD 0 ≠ 48 := .inl (by omega)
    have HGOOD := Lib.hid (fun hd2 : ∀ c ∈ d.data.toList, PV.isDig c => PV.wholeL_digits hd2 hne hh)
    have HSZ := Lib.hid (show d.size ≤ 13 by omega)
    have z1 : ¬ (d.size : Int) < 1 := by omega
    have z2 : ¬ (13 : Int) < (d.size : Int) := by omega
    have j0 : (0 : Int) < (d.size : Int) := by omega
    have i2 : ¬ (1 : Int) < (d.size : Int) := by omega
    have a0 := first45 h45 (by omega)
    clear hlen hne hh h45
    go_enter Tryd.func43, Tryd.ntmps43
    go_upto_region 4 with (fail)
    go_wp2_with fail
    go_loop [5, 6] (fun n i => ∃ k : Nat, k ≤ d.size ∧ i = .int .i64 (k : Int) ∧ n = .int .i64 ((PV.val 0 (d.data.toList.take k) : Nat) : Int) ∧ ∀ c ∈ d.data.toList.take k, PV.isDig c) (fun _ i => d.size - (intOf i).toNat)
    case atStart => exact ⟨0, Nat.zero_le _, rfl, by simp [PV.val], fun c hc => (by simp at hc)⟩
    case round =>
      obtain ⟨k, hk, rfl, rfl, hdg⟩ := hrel
      have hvl := PV.val_lt hdg
      have hpw : 10 ^ (d.data.toList.take k).length ≤ 10 ^ 13 := Nat.pow_le_pow_right (by decide) (by rw [List.length_take, Array.length_toList]; show min k d.size ≤ 13; have := HSZ.out; omega)
      obtain ⟨v, hv0⟩ : ∃ v, v = PV.val 0 (d.data.toList.take k) := ⟨_, rfl⟩
      rw [← hv0] at hvl ⊢
      have hv : v < 10000000000000 := Nat.lt_of_lt_of_le hvl hpw
      have HV := Lib.hid hv0
      have HD := Lib.hid hdg
      have hk0 : (0 : Int) ≤ (k : Int) := Int.natCast_nonneg _
      clear hdg hv0 hvl hpw
      by_cases hlt : k < d.size
      · have hkl : (k : Int) < (d.size : Int) := by omega
        have hb := d[k].toNat_lt
        by_cases h48 : d[k].toNat < 48
        · have HN := Lib.hid (HBAD.out _ (mem_atR d k hlt) (fun h => by unfold PV.isDig at h; omega))
          have e1 : decide ((d[k].toNat : Int) < 48) = true := decide_eq_true (by omega)
          clear h48 hb
          go_wp2_with fail
          go_ret2
          exact ⟨by rw [HN.out]; rfl, Gr.refl _⟩
        · by_cases h57 : 57 < d[k].toNat
          · have HN := Lib.hid (HBAD.out _ (mem_atR d k hlt) (fun h => by unfold PV.isDig at h; omega))
            have e1 : decide ((d[k].toNat : Int) < 48) = false := decide_eq_false (by omega)
            have e2 : (57 : Int) < (d[k].toNat : Int) := by omega
            clear h48 hb h57
            go_wp2_with fail
            go_ret2
            exact ⟨by rw [HN.out]; rfl, Gr.refl _⟩
          · have e1 : (48 : Int) ≤ (d[k].toNat : Int) := by omega
            have e2 : (d[k].toNat : Int) ≤ 57 := by omega
            have HTS := Lib.hid (take_atR d k hlt)
            have w1 : wrap64 ((v : Int) * 10) = (v : Int) * 10 := by unfold wrap64; omega
            have w2 : wrap64 ((v : Int) * 10 + ((d[k].toNat : Int) - 48)) = (v : Int) * 10 + ((d[k].toNat : Int) - 48) := by unfold wrap64; omega
            have w3 : wrap64 ((k : Int) + 1) = ((k + 1 : Nat) : Int) := by unfold wrap64; omega
            clear h48 h57 hb
            go_wp2_with fail
            go_round
            case rel =>
              refine ⟨k + 1, by omega, by go_num, ?_, ?_⟩
              · rw [HTS.out, PV.val_snoc, ← HV.out]
                congr 1
                omega
              · intro c hc
                rw [HTS.out] at hc
                rcases List.mem_append.1 hc with hc | hc
                · exact HD.out c hc
                · obtain rfl := List.mem_singleton.1 hc
                  unfold PV.isDig
                  omega
            case measure => simp [intOf]; omega
      · have hk2 : k = d.size := by omega
        have hall : d.data.toList.take k = d.data.toList := List.take_of_length_le (by rw [Array.length_toList]; show d.size ≤ k; omega)
        have HN := Lib.hid (HGOOD.out (by have h2 := HD.out; rw [hall] at h2; exact h2))
        have h1 := HV.out
        rw [hall] at h1
        rw [← h1] at HN
        clear hall h1
        by_cases hbig : v ≤ 1099511627776
        · have HN2 : Hid (PV.wholeL d.data.toList = some ((v : Int))) := Lib.hid (by rw [HN.out, if_pos hbig])
          have t9 : ¬ (1099511627776 : Int) < (v : Int) := by omega
          have t8 : wrap64 (-(v : Int)) = -(v : Int) := by unfold wrap64; omega
          have t7 : ¬ (d.size : Int) < (d.size : Int) := by omega
          subst hk2
          go_wp2_with fail
          go_ret2
          exact ⟨by rw [HN2.out]; rfl, Gr.refl _⟩
        · have HN2 : Hid (PV.wholeL d.data.toList = none) := Lib.hid (by rw [HN.out, if_neg hbig])
          have t9 : (1099511627776 : Int) < (v : Int) := by omega
          subst hk2
          go_wp2_with fail
          go_ret2
          exact ⟨by rw [HN2.out]; rfl, Gr.refl _⟩
set_option maxRecDepth 100000 in
set_option maxHeartbeats 4000000 in
theorem rwhole_neg (s d : ByteArray) (hs : s.size ≤ 281474976710656) (h0 : 0 < s.size) (h45 : s[0] = 45) (hdd : d = s.extract 1 s.size) (w : World) :
    Calls Tryd.prog 43 #[.string s] w fun e w' => e = .returned (wholeVal (PV.wholeL (45 :: d.data.toList))) ∧ Gr w w' := by
  have a0 : ((s[0].toNat : Int) == 45) = true := by rw [h45]; rfl
  have i0 : (0 : Int) < (s.size : Int) := by omega
  have i1 : (1 : Int) ≤ (s.size : Int) := by omega
  have hdz : d.size = s.size - 1 := by rw [hdd, ByteArray.size_extract]; omega
  have HDZ := Lib.hid hdz
  clear h45 hdz
  have hlen : d.data.toList.length = d.size := by rw [Array.length_toList]; rfl
  have HBAD : Hid (∀ c ∈ d.data.toList, ¬ PV.isDig c → PV.wholeL (45 :: d.data.toList) = none) := Lib.hid (fun c hc hd => PV.neg_none (fun ds _ _ => hd (ds c hc)))
  by_cases hz : d.size = 0
  · have HN := Lib.hid (PV.neg_none (l := d.data.toList) (fun _ h _ => h (List.length_eq_zero_iff.1 (by omega))))
    have z1 : (d.size : Int) < 1 := by omega
    clear hlen HBAD
    go_enter Tryd.func43, Tryd.ntmps43
    go_upto_region 4 with (fail)
    rw [← hdd]
    clear hdd
    go_wp2_with fail
    go_ret2
    exact ⟨by rw [HN.out]; rfl, Gr.refl _⟩
  have g0 : 0 < d.size := by omega
  by_cases h13 : 13 < d.size
  · have HN := Lib.hid (PV.wholeL_long (l := 45 :: d.data.toList) (by rw [List.length_cons]; omega))
    have z2 : (13 : Int) < (d.size : Int) := by omega
    have z1 : ¬ (d.size : Int) < 1 := by omega
    clear hlen HBAD
    go_enter Tryd.func43, Tryd.ntmps43
    go_upto_region 4 with (fail)
    rw [← hdd]
    clear hdd
    go_wp2_with fail
    go_ret2
    exact ⟨by rw [HN.out]; rfl, Gr.refl _⟩
  by_cases h1 : 1 < d.size
  · by_cases hz0 : d[0] = 48
    · have HN := Lib.hid (PV.neg_none (l := d.data.toList) (fun _ _ h => h (by rw [headD_at d g0]; exact hz0)))
      have e0 : ((d[0].toNat : Int) == 48) = true := by rw [hz0]; rfl
      have i2 : (1 : Int) < (d.size : Int) := by omega
      have j0 : (0 : Int) < (d.size : Int) := by omega
      have z1 : ¬ (d.size : Int) < 1 := by omega
      have z2 : ¬ (13 : Int) < (d.size : Int) := by omega
      clear hlen HBAD hz0
      go_enter Tryd.func43, Tryd.ntmps43
      go_upto_region 4 with (fail)
      rw [← hdd]
      clear hdd
      go_wp2_with fail
      go_ret2
      exact ⟨by rw [HN.out]; rfl, Gr.refl _⟩
    · have hne : d.data.toList ≠ [] := fun e => by rw [e] at hlen; have : (0 : Nat) = d.size := hlen; omega
      have hh : d.data.toList.headD 0 ≠ 48 := by rw [headD_at d g0]; exact hz0
      have HGOOD := Lib.hid (fun hd2 : ∀ c ∈ d.data.toList, PV.isDig c => PV.wholeL_minus hd2 hne hh)
      have HSZ := Lib.hid (show d.size ≤ 13 by omega)
      have z1 : ¬ (d.size : Int) < 1 := by omega
      have z2 : ¬ (13 : Int) < (d.size : Int) := by omega
      have j0 : (0 : Int) < (d.size : Int) := by omega
      have i2 : (1 : Int) < (d.size : Int) := by omega
      have e0 : ((d[0].toNat : Int) == 48) = false := int_beq_f (fun e => hz0 (UInt8.toNat_inj.1 (by have : (48 : UInt8).toNat = 48 := rfl; omega)))
      have e9 : (d.toList == [48]) = false := beq_eq_false_iff_ne.2 (fun e => by rw [ByteArray.toList_eq] at e; have := congrArg List.length e; rw [hlen] at this; have h1 : d.size = 1 := this; omega)
      clear hlen hne hh hz0
      go_enter Tryd.func43, Tryd.ntmps43
      go_upto_region 4 with (fail)
      rw [← hdd]
      clear hdd
      go_wp2_with fail
      go_loop [5, 6] (fun n i => ∃ k : Nat, k ≤ d.size ∧ i = .int .i64 (k : Int) ∧ n = .int .i64 ((PV.val 0 (d.data.toList.take k) : Nat) : Int) ∧ ∀ c ∈ d.data.toList.take k, PV.isDig c) (fun _ i => d.size - (intOf i).toNat)
      case atStart => exact ⟨0, Nat.zero_le _, rfl, by simp [PV.val], fun c hc => (by simp at hc)⟩
      case round =>
        obtain ⟨k, hk, rfl, rfl, hdg⟩ := hrel
        have hvl := PV.val_lt hdg
        have hpw : 10 ^ (d.data.toList.take k).length ≤ 10 ^ 13 := Nat.pow_le_pow_right (by decide) (by rw [List.length_take, Array.length_toList]; show min k d.size ≤ 13; have := HSZ.out; omega)
        obtain ⟨v, hv0⟩ : ∃ v, v = PV.val 0 (d.data.toList.take k) := ⟨_, rfl⟩
        rw [← hv0] at hvl ⊢
        have hv : v < 10000000000000 := Nat.lt_of_lt_of_le hvl hpw
        have HV := Lib.hid hv0
        have HD := Lib.hid hdg
        have hk0 : (0 : Int) ≤ (k : Int) := Int.natCast_nonneg _
        clear hdg hv0 hvl hpw
        by_cases hlt : k < d.size
        · have hkl : (k : Int) < (d.size : Int) := by omega
          have hb := d[k].toNat_lt
          by_cases h48 : d[k].toNat < 48
          · have HN := Lib.hid (HBAD.out _ (mem_atR d k hlt) (fun h => by unfold PV.isDig at h; omega))
            have e1 : decide ((d[k].toNat : Int) < 48) = true := decide_eq_true (by omega)
            clear h48 hb
            go_wp2_with fail
            go_ret2
            exact ⟨by rw [HN.out]; rfl, Gr.refl _⟩
          · by_cases h57 : 57 < d[k].toNat
            · have HN := Lib.hid (HBAD.out _ (mem_atR d k hlt) (fun h => by unfold PV.isDig at h; omega))
              have e1 : decide ((d[k].toNat : Int) < 48) = false := decide_eq_false (by omega)
              have e2 : (57 : Int) < (d[k].toNat : Int) := by omega
              clear h48 hb h57
              go_wp2_with fail
              go_ret2
              exact ⟨by rw [HN.out]; rfl, Gr.refl _⟩
            · have e1 : (48 : Int) ≤ (d[k].toNat : Int) := by omega
              have e2 : (d[k].toNat : Int) ≤ 57 := by omega
              have HTS := Lib.hid (take_atR d k hlt)
              have w1 : wrap64 ((v : Int) * 10) = (v : Int) * 10 := by unfold wrap64; omega
              have w2 : wrap64 ((v : Int) * 10 + ((d[k].toNat : Int) - 48)) = (v : Int) * 10 + ((d[k].toNat : Int) - 48) := by unfold wrap64; omega
              have w3 : wrap64 ((k : Int) + 1) = ((k + 1 : Nat) : Int) := by unfold wrap64; omega
              clear h48 h57 hb
              go_wp2_with fail
              go_round
              case rel =>
                refine ⟨k + 1, by omega, by go_num, ?_, ?_⟩
                · rw [HTS.out, PV.val_snoc, ← HV.out]
                  congr 1
                  omega
                · intro c hc
                  rw [HTS.out] at hc
                  rcases List.mem_append.1 hc with hc | hc
                  · exact HD.out c hc
                  · obtain rfl := List.mem_singleton.1 hc
                    unfold PV.isDig
                    omega
              case measure => simp [intOf]; omega
        · have hk2 : k = d.size := by omega
          have hall : d.data.toList.take k = d.data.toList := List.take_of_length_le (by rw [Array.length_toList]; show d.size ≤ k; omega)
          have HN := Lib.hid (HGOOD.out (by have h2 := HD.out; rw [hall] at h2; exact h2))
          have h1 := HV.out
          rw [hall] at h1
          rw [← h1] at HN
          clear hall h1
          by_cases hbig : v ≤ 1099511627776
          · have HN2 : Hid (PV.wholeL (45 :: d.data.toList) = some (-(v : Int))) := Lib.hid (by rw [HN.out, if_pos hbig])
            have t9 : ¬ (1099511627776 : Int) < (v : Int) := by omega
            have t8 : wrap64 (-(v : Int)) = -(v : Int) := by unfold wrap64; omega
            have t7 : ¬ (d.size : Int) < (d.size : Int) := by omega
            subst hk2
            go_wp2_with fail
            go_ret2
            exact ⟨by rw [HN2.out]; rfl, Gr.refl _⟩
          · have HN2 : Hid (PV.wholeL (45 :: d.data.toList) = none) := Lib.hid (by rw [HN.out, if_neg hbig])
            have t9 : (1099511627776 : Int) < (v : Int) := by omega
            subst hk2
            go_wp2_with fail
            go_ret2
            exact ⟨by rw [HN2.out]; rfl, Gr.refl _⟩
  · by_cases hz0 : d[0] = 48
    · have hd48 : d.data.toList = [48] := by
        have e := headD_at d g0
        cases hx : d.data.toList with
        | nil => rw [hx] at hlen; have : (0 : Nat) = d.size := hlen; omega
        | cons a r =>
          rw [hx] at e hlen
          have hr : r = [] := List.length_eq_zero_iff.1 (by rw [List.length_cons] at hlen; omega)
          rw [hr]
          simp only [List.headD_cons] at e
          rw [e, hz0]
      have HN := Lib.hid (PV.neg_none (l := d.data.toList) (fun _ _ h => h (by rw [hd48]; rfl)))
      have z1 : ¬ (d.size : Int) < 1 := by omega
      have z2 : ¬ (13 : Int) < (d.size : Int) := by omega
      have i2 : ¬ (1 : Int) < (d.size : Int) := by omega
      have e9 : (d.toList == [48]) = true := by rw [ByteArray.toList_eq, hd48]; rfl
      clear hlen HBAD hz0 hd48
      go_enter Tryd.func43, Tryd.ntmps43
      go_upto_region 4 with (fail)
      rw [← hdd]
      clear hdd
      go_wp2_with fail
      go_ret2
      exact ⟨by rw [HN.out]; rfl, Gr.refl _⟩
    · have hne : d.data.toList ≠ [] := fun e => by rw [e] at hlen; have : (0 : Nat) = d.size := hlen; omega
      have hh : d.data.toList.headD 0 ≠ 48 := by rw [headD_at d g0]; exact hz0
      have HGOOD := Lib.hid (fun hd2 : ∀ c ∈ d.data.toList, PV.isDig c => PV.wholeL_minus hd2 hne hh)
      have HSZ := Lib.hid (show d.size ≤ 13 by omega)
      have z1 : ¬ (d.size : Int) < 1 := by omega
      have z2 : ¬ (13 : Int) < (d.size : Int) := by omega
      have j0 : (0 : Int) < (d.size : Int) := by omega
      have i2 : ¬ (1 : Int) < (d.size : Int) := by omega
      have e9 : (d.toList == [48]) = false := beq_eq_false_iff_ne.2 (fun e => hz0 (by
        have e2 := headD_at d g0
        rw [ByteArray.toList_eq] at e
        rw [← e2, e]; rfl))
      clear hlen hne hh hz0
      go_enter Tryd.func43, Tryd.ntmps43
      go_upto_region 4 with (fail)
      rw [← hdd]
      clear hdd
      go_wp2_with fail
      go_loop [5, 6] (fun n i => ∃ k : Nat, k ≤ d.size ∧ i = .int .i64 (k : Int) ∧ n = .int .i64 ((PV.val 0 (d.data.toList.take k) : Nat) : Int) ∧ ∀ c ∈ d.data.toList.take k, PV.isDig c) (fun _ i => d.size - (intOf i).toNat)
      case atStart => exact ⟨0, Nat.zero_le _, rfl, by simp [PV.val], fun c hc => (by simp at hc)⟩
      case round =>
        obtain ⟨k, hk, rfl, rfl, hdg⟩ := hrel
        have hvl := PV.val_lt hdg
        have hpw : 10 ^ (d.data.toList.take k).length ≤ 10 ^ 13 := Nat.pow_le_pow_right (by decide) (by rw [List.length_take, Array.length_toList]; show min k d.size ≤ 13; have := HSZ.out; omega)
        obtain ⟨v, hv0⟩ : ∃ v, v = PV.val 0 (d.data.toList.take k) := ⟨_, rfl⟩
        rw [← hv0] at hvl ⊢
        have hv : v < 10000000000000 := Nat.lt_of_lt_of_le hvl hpw
        have HV := Lib.hid hv0
        have HD := Lib.hid hdg
        have hk0 : (0 : Int) ≤ (k : Int) := Int.natCast_nonneg _
        clear hdg hv0 hvl hpw
        by_cases hlt : k < d.size
        · have hkl : (k : Int) < (d.size : Int) := by omega
          have hb := d[k].toNat_lt
          by_cases h48 : d[k].toNat < 48
          · have HN := Lib.hid (HBAD.out _ (mem_atR d k hlt) (fun h => by unfold PV.isDig at h; omega))
            have e1 : decide ((d[k].toNat : Int) < 48) = true := decide_eq_true (by omega)
            clear h48 hb
            go_wp2_with fail
            go_ret2
            exact ⟨by rw [HN.out]; rfl, Gr.refl _⟩
          · by_cases h57 : 57 < d[k].toNat
            · have HN := Lib.hid (HBAD.out _ (mem_atR d k hlt) (fun h => by unfold PV.isDig at h; omega))
              have e1 : decide ((d[k].toNat : Int) < 48) = false := decide_eq_false (by omega)
              have e2 : (57 : Int) < (d[k].toNat : Int) := by omega
              clear h48 hb h57
              go_wp2_with fail
              go_ret2
              exact ⟨by rw [HN.out]; rfl, Gr.refl _⟩
            · have e1 : (48 : Int) ≤ (d[k].toNat : Int) := by omega
              have e2 : (d[k].toNat : Int) ≤ 57 := by omega
              have HTS := Lib.hid (take_atR d k hlt)
              have w1 : wrap64 ((v : Int) * 10) = (v : Int) * 10 := by unfold wrap64; omega
              have w2 : wrap64 ((v : Int) * 10 + ((d[k].toNat : Int) - 48)) = (v : Int) * 10 + ((d[k].toNat : Int) - 48) := by unfold wrap64; omega
              have w3 : wrap64 ((k : Int) + 1) = ((k + 1 : Nat) : Int) := by unfold wrap64; omega
              clear h48 h57 hb
              go_wp2_with fail
              go_round
              case rel =>
                refine ⟨k + 1, by omega, by go_num, ?_, ?_⟩
                · rw [HTS.out, PV.val_snoc, ← HV.out]
                  congr 1
                  omega
                · intro c hc
                  rw [HTS.out] at hc
                  rcases List.mem_append.1 hc with hc | hc
                  · exact HD.out c hc
                  · obtain rfl := List.mem_singleton.1 hc
                    unfold PV.isDig
                    omega
              case measure => simp [intOf]; omega
        · have hk2 : k = d.size := by omega
          have hall : d.data.toList.take k = d.data.toList := List.take_of_length_le (by rw [Array.length_toList]; show d.size ≤ k; omega)
          have HN := Lib.hid (HGOOD.out (by have h2 := HD.out; rw [hall] at h2; exact h2))
          have h1 := HV.out
          rw [hall] at h1
          rw [← h1] at HN
          clear hall h1
          by_cases hbig : v ≤ 1099511627776
          · have HN2 : Hid (PV.wholeL (45 :: d.data.toList) = some (-(v : Int))) := Lib.hid (by rw [HN.out, if_pos hbig])
            have t9 : ¬ (1099511627776 : Int) < (v : Int) := by omega
            have t8 : wrap64 (-(v : Int)) = -(v : Int) := by unfold wrap64; omega
            have t7 : ¬ (d.size : Int) < (d.size : Int) := by omega
            subst hk2
            go_wp2_with fail
            go_ret2
            exact ⟨by rw [HN2.out]; rfl, Gr.refl _⟩
          · have HN2 : Hid (PV.wholeL (45 :: d.data.toList) = none) := Lib.hid (by rw [HN.out, if_neg hbig])
            have t9 : (1099511627776 : Int) < (v : Int) := by omega
            subst hk2
            go_wp2_with fail
            go_ret2
            exact ⟨by rw [HN2.out]; rfl, Gr.refl _⟩
theorem rwhole_any (s : ByteArray) (hs : s.size ≤ 281474976710656) (w : World) :
    Calls Tryd.prog 43 #[.string s] w fun e w' => e = .returned (wholeVal (PV.wholeL s.data.toList)) ∧ Gr w w' := by
  by_cases h : ∃ hz : 0 < s.size, s[0] = 45
  · obtain ⟨hz, h45⟩ := h
    have e : s.data.toList = 45 :: (s.extract 1 s.size).data.toList := by
      have h1 := headD_at s hz
      rw [h45] at h1
      cases hx : s.data.toList with
      | nil => rw [hx] at h1; cases h1
      | cons a r =>
        rw [hx] at h1
        simp only [List.headD_cons] at h1
        rw [h1]
        congr 1
        have : (s.extract 1 s.size).data.toList = s.data.toList.drop 1 := Lib.extract_to_end s 1
        rw [this, hx]; rfl
    rw [e]
    exact rwhole_neg s _ hs hz h45 rfl w
  · exact rwhole_pos s hs (fun hz h45 => h ⟨hz, h45⟩) w
set_option maxRecDepth 100000 in
theorem rown_any (m : Int) (s : ByteArray) (hs : s.size ≤ 281474976710656) (w : World) :
    Calls Tryd.prog 24 #[.string s, .int .i64 m] w fun e w' => e = .returned (.bool (ownB m s)) ∧ Gr w w' := by
  have HW := Lib.hid (rwhole_any s hs w)
  cases hw : PV.wholeL s.data.toList with
  | none =>
    rw [hw] at HW
    have HW : Hid (Calls Tryd.prog 43 #[.string s] w fun e w' => e = .returned (.tuple #[.int .i64 0, .bool false]) ∧ Gr w w') := HW
    have HZ : Hid (ownB m s = false) := Lib.hid (by unfold ownB; rw [hw])
    clear hw
    go_enter Tryd.func24, Tryd.ntmps24
    go_wp2_with fail
    refine HW.out.mono ?_
    rintro e w1 ⟨rfl, g⟩
    have HG := Lib.hid g
    clear g
    go_wp2_with fail
    go_ret
    exact ⟨by rw [HZ.out]; rfl, HG.out⟩
  | some n =>
    rw [hw] at HW
    have HW : Hid (Calls Tryd.prog 43 #[.string s] w fun e w' => e = .returned (.tuple #[.int .i64 n, .bool true]) ∧ Gr w w') := HW
    obtain ⟨q, hq⟩ : ∃ q, q = decide (n.tmod 8 = m) := ⟨_, rfl⟩
    have eq1 : (n.tmod 8 == m) = q := by rw [int_beqR, hq]
    by_cases h0 : 0 ≤ n
    · have eq2 : (n % 8 == m) = q := by rw [← Int.tmod_eq_emod_of_nonneg h0]; exact eq1
      have HZ : Hid (ownB m s = q) := Lib.hid (by unfold ownB; rw [hw, hq]; simp [h0])
      clear hw hq
      go_enter Tryd.func24, Tryd.ntmps24
      go_wp2_with fail
      refine HW.out.mono ?_
      rintro e w1 ⟨rfl, g⟩
      have HG := Lib.hid g
      clear g
      go_wp2_with fail
      go_ret
      exact ⟨by rw [HZ.out]; first | rfl | simp [eq1, eq2], HG.out⟩
    · have h0' : decide (0 ≤ n) = false := decide_eq_false h0
      have HZ : Hid (ownB m s = false) := Lib.hid (by unfold ownB; rw [hw]; simp [h0])
      clear hw hq eq1
      go_enter Tryd.func24, Tryd.ntmps24
      go_wp2_with fail
      refine HW.out.mono ?_
      rintro e w1 ⟨rfl, g⟩
      have HG := Lib.hid g
      clear g
      go_wp2_with fail
      go_ret
      exact ⟨by rw [HZ.out]; rfl, HG.out⟩
end Go.Proofs.YtioldhhnkeakcaaDoor
