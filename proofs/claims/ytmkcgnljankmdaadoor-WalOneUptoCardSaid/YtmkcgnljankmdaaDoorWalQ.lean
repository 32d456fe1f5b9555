/- Walks: files behind a gap; the law WalOne: a record more. -/
import Derived.Test.YtmkcgnljankmdaaDoorWalN
import Derived.Test.YtmkcgnljankmdaaDoorWalL
namespace Go.Proofs.YtmkcgnljankmdaaDoor
open Go.RowKit

theorem bytesV_lk {L : List F} {nm : ByteArray} {f : F} (h : lk L nm = some f) : bytesV L nm = .tuple #[.string (f.kept ++ f.loose), .int .i64 0] := by
  unfold bytesV bytesF
  rw [find?_bytes, show L.find? (fun f => eqS f.name nm) = some f from h]
  rfl
theorem bytesV_lkno {L : List F} {nm : ByteArray} (h : lk L nm = none) : bytesV L nm = .tuple #[.string ⟨#[]⟩, .int .i64 30] := by
  unfold bytesV bytesF
  rw [find?_bytes, show L.find? (fun f => eqS f.name nm) = none from h]
  rfl
def strayB (L : List F) : Bool := (List.range (wCount L)).any fun j => (lk L (nameW wBB j)).isNone
theorem stray_yes {L : List F} {j : Nat} (hj : j < wCount L) (h : lk L (nameW wBB j) = none) : strayB L = true := by
  unfold strayB
  rw [List.any_eq_true]
  exact ⟨j, List.mem_range.2 hj, by rw [h]; rfl⟩
theorem stray_no {L : List F} (h : ∀ j, j < wCount L → lk L (nameW wBB j) ≠ none) : strayB L = false := by
  unfold strayB
  rw [List.any_eq_false]
  intro j hj
  obtain ⟨f, hf⟩ := Option.ne_none_iff_exists'.1 (h j (List.mem_range.1 hj))
  rw [hf]
  exact Bool.false_ne_true
theorem stray_none {L : List F} (h : strayB L = false) : NoStray L wBB := noStray (fun i hi e => by rw [stray_yes hi e] at h; cases h)
theorem count_step {L : List F} {k : Nat} (hk : k < L.length) : wCount (L.take (k + 1)) = wCount (L.take k) + if isW L[k] = true then 1 else 0 := by
  unfold wCount
  rw [List.take_succ_eq_append_getElem hk, List.filter_append, List.length_append, List.filter_cons, List.filter_nil]
  cases isW L[k] <;> rfl
theorem count_le (L : List F) (k : Nat) : wCount (L.take k) ≤ k := by
  unfold wCount
  have h1 := List.length_filter_le isW (L.take k)
  rw [List.length_take] at h1
  omega
theorem lit_w {x : ByteArray} : ((x.toList == [119, 46]) = true) ↔ x = ⟨#[119, 46]⟩ := by
  rw [beq_iff_eq, ByteArray.toList_eq]
  exact ⟨fun h => bytes_ext h, fun h => by rw [h]⟩

set_option maxRecDepth 100000 in
set_option maxHeartbeats 4000000 in
theorem strays_any (v : Value) (L : List F) (w : World) (hv : FV w v L) (hf : Fit L) :
    Calls Tryd.prog 19 #[.agg #[v]] w fun e w' => e = .returned (.bool (strayB L)) ∧ Gr w w' := by
  have HB := Lib.hid (fun nm w1 (g : Gr w w1) => rbytes_any v L nm w1 (hv.gr g) hf)
  obtain ⟨A, c, rfl, l1, ⟨l2, _⟩, l3⟩ := hv
  have hc63 : c ≤ 9223372036854775807 := l2
  have HA := Lib.hid l3
  have HFit := Lib.hid hf
  obtain ⟨n, hn⟩ : ∃ n, n = L.length := ⟨_, rfl⟩
  have HN := Lib.hid hn
  rw [← hn] at l1 HB ⊢
  have HG := fun A => Lib.hid (gr_box w (.cells #[.slice A n c] 24))
  clear l2 l3 hf hn
  go_enter Tryd.func19, Tryd.ntmps19
  go_wp2_with fail
  go_loop [3, 5] (fun t i => ∃ k : Nat, k ≤ n ∧ i = .int .i64 (k : Int) ∧ t = .int .i64 (wCount (L.take k) : Int)) (fun _ i => n - (intOf i).toNat)
  case atStart => exact ⟨0, Nat.zero_le _, rfl, rfl⟩
  case round =>
    obtain ⟨k, hk, rfl, rfl⟩ := hrel
    have hcle := count_le L k
    by_cases hlt : k < n
    · have hkL : k < L.length := by rw [← HN.out]; exact hlt
      have hcs := count_step hkL
      obtain ⟨b, off, rfl, q0, -, -⟩ := HA.out k hkL
      have c0 := (HG (some ⟨b, off, none⟩)).out.cell q0
      have hfz := (HFit.out _ (List.getElem_mem hkL)).1
      obtain ⟨t, ht⟩ : ∃ t, t = wCount (L.take k) := ⟨_, rfl⟩
      obtain ⟨f, hfe⟩ : ∃ f, f = L[k] := ⟨_, rfl⟩
      rw [← hfe] at c0 hfz hcs
      rw [← ht] at hcs hcle ⊢
      obtain ⟨x, hx⟩ : ∃ x, x = f.name := ⟨_, rfl⟩
      have hisW : isW f = (decide (1 < x.size) && eqS (x.extract 0 2) ⟨#[119, 46]⟩) := by unfold isW; rw [hx]
      rw [← hx] at c0 hfz
      clear q0 ht hfe hx hkL
      by_cases h1 : 1 < x.size
      · by_cases h2 : x.extract 0 2 = ⟨#[119, 46]⟩
        · have HT := Lib.hid (hcs.trans (by rw [hisW, decide_eq_true h1, h2, eqS_self]; rfl : _ = t + 1))
          have hte : ((x.extract 0 2).toList == [119, 46]) = true := lit_w.2 h2
          have hx1 : (x.size : Int) > 1 := by omega
          have hx2 : (2 : Int) ≤ (x.size : Int) := by omega
          clear hcs hisW h2
          go_wp2_with fail
          go_round
          case rel => exact ⟨k + 1, by omega, by go_num, by rw [HT.out]; go_num⟩
          case measure => simp [intOf]; omega
        · have HT := Lib.hid (hcs.trans (by rw [hisW, decide_eq_true h1, eqS_ne h2]; rfl : _ = t))
          have hte : ((x.extract 0 2).toList == [119, 46]) = false := by rw [Bool.eq_false_iff]; exact fun e => h2 (lit_w.1 e)
          have hx1 : (x.size : Int) > 1 := by omega
          have hx2 : (2 : Int) ≤ (x.size : Int) := by omega
          clear hcs hisW h2
          go_wp2_with fail
          go_round
          case rel => exact ⟨k + 1, by omega, by go_num, by rw [HT.out]⟩
          case measure => simp [intOf]; omega
      · have HT := Lib.hid (hcs.trans (by rw [hisW, decide_eq_false h1]; rfl : _ = t))
        have hx1 : ¬ (x.size : Int) > 1 := by omega
        clear hcs hisW
        go_wp2_with fail
        go_round
        case rel => exact ⟨k + 1, by omega, by go_num, by rw [HT.out]⟩
        case measure => simp [intOf]; omega
    · have htk : L.take k = L := List.take_of_length_le (by rw [← HN.out]; omega)
      rw [htk] at hcle ⊢
      obtain ⟨t, ht⟩ : ∃ t, t = wCount L := ⟨_, rfl⟩
      rw [← ht] at hcle ⊢
      have HT := Lib.hid ht
      have HS0 : Hid (RSC A n c w (w.alloc (.cells #[.slice A n c] 24))) := Lib.hid ⟨by simp, (HG A).out⟩
      clear htk ht
      go_wp2_with fail
      go_loopw [4] (fun i wr => ∃ j : Nat, i = .int .i64 (j : Int) ∧ j ≤ t ∧ Hid (∀ i, i < j → lk L (nameW wBB i) ≠ none) ∧ RSC A n c w wr) (fun i _ => t - (intOf i).toNat)
      case atStart => exact ⟨0, rfl, Nat.zero_le _, fun i h => absurd h (Nat.not_lt_zero _), HS0.out⟩
      case round =>
        obtain ⟨j, rfl, hj, hall, hc, hgr⟩ := hrel
        have HS := Lib.hid (show RSC A n c w wr from ⟨hc, hgr⟩)
        clear hgr
        by_cases hlt2 : j < t
        · have H1 := Lib.hid (fun w => show Calls Tryd.prog 29 #[.string ⟨#[119]⟩, .int .i64 (j : Int)] w fun e w' => e = .returned (.string (nameW wBB j)) ∧ Gr w w' from rwname_any wBB (by decide) j (by omega) w)
          have H2 := Lib.hid (fun w1 (g : Gr w w1) => HB.out (nameW wBB j) w1 g)
          rcases hso : lk L (nameW wBB j) with _ | f
          · have hb := bytesV_lkno hso
            have HE := Lib.hid (stray_yes (L := L) (by rw [← HT.out]; exact hlt2) hso)
            rw [hb] at H2
            obtain ⟨nmj, hnm⟩ : ∃ x, x = nameW wBB j := ⟨_, rfl⟩
            rw [← hnm] at H1 H2
            clear hso hb HB hnm
            go_wp2_with fail
            go_region_held3 (fun w' => RSC A n c w w')
              (first
                | (with_reducible exact HS.out)
                | (with_reducible exact RSC.gr HS.out (Gr.refl _).drew)
                | (with_reducible assumption))
              (first
                | (go_at_call 29; (with_reducible refine (H1.out _).mono ?_); rintro e w4 ⟨rfl, hb⟩; have hS4 := RSC.gr (RSC.gr HS.out (Gr.refl _).drew) hb)
                | (go_at_call 28; (with_reducible refine (H2.out _ ?_).mono ?_); (first | exact hS4.2 | exact (RSC.gr hS4 (Gr.refl _).drew).2); rintro e w5 ⟨rfl, hb⟩; have hS5 := RSC.gr hS4 hb))
            have HG5 := Lib.hid hS5.2
            clear hS5 hS4
            go_wp2_with fail
            go_ret
            exact ⟨by rw [HE.out]; rfl, HG5.out⟩
          · have hb := bytesV_lk hso
            have HA2 : Hid (∀ i, i < j + 1 → lk L (nameW wBB i) ≠ none) := Lib.hid (fun i hi => by
              rcases Nat.lt_or_ge i j with e | e
              · exact hall.out i e
              · obtain rfl : i = j := by omega
                rw [hso]; exact Option.some_ne_none _)
            rw [hb] at H2
            obtain ⟨nmj, hnm⟩ : ∃ x, x = nameW wBB j := ⟨_, rfl⟩
            rw [← hnm] at H1 H2
            clear hso hb HB hnm
            go_wp2_with fail
            go_region_held3 (fun w' => RSC A n c w w')
              (first
                | (with_reducible exact HS.out)
                | (with_reducible exact RSC.gr HS.out (Gr.refl _).drew)
                | (with_reducible assumption))
              (first
                | (go_at_call 29; (with_reducible refine (H1.out _).mono ?_); rintro e w4 ⟨rfl, hb⟩; have hS4 := RSC.gr (RSC.gr HS.out (Gr.refl _).drew) hb)
                | (go_at_call 28; (with_reducible refine (H2.out _ ?_).mono ?_); (first | exact hS4.2 | exact (RSC.gr hS4 (Gr.refl _).drew).2); rintro e w5 ⟨rfl, hb⟩; have hS5 := RSC.gr hS4 hb))
            have HG5 := Lib.hid hS5
            clear hS5 hS4
            go_wp2_with fail
            go_roundw
            case rel => exact ⟨j + 1, by go_num, by omega, HA2, HG5.out⟩
            case measure => simp [intOf]; omega
        · have HE := Lib.hid (stray_no (L := L) (fun i hi => hall.out i (by rw [← HT.out] at hi; omega)))
          have HG5 := Lib.hid HS.out.2
          go_wp2_with fail
          go_ret
          exact ⟨by rw [HE.out]; rfl, HG5.out⟩
end Go.Proofs.YtmkcgnljankmdaaDoor
