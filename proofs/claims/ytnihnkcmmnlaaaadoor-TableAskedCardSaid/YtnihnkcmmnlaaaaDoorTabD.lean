/- Walks: what Build calls, the program's: do keys rise, keys and values in a row, the frame of fields. -/
import Derived.Test.YtnihnkcmmnlaaaaDoorTabC
namespace Go.Proofs.YtnihnkcmmnlaaaaDoor
open Go.RowKit

set_option maxRecDepth 100000 in
set_option maxHeartbeats 1000000 in
theorem rising_any (v : Value) (L : List PR) (r : Bool) (hr : r = true ↔ rises L) (w : World) (hv : PV w v L) :
    Calls Tryd.prog 19 #[v] w fun e w' => e = .returned (.bool r) ∧ Gr w w' := by
  obtain ⟨A, c, rfl, l1, ⟨l2, _⟩, l3⟩ := hv
  have hc63 : c ≤ 9223372036854775807 := l2
  have HP := Lib.hid l3
  obtain ⟨n, hn⟩ : ∃ n, n = L.length := ⟨_, rfl⟩
  rw [← hn] at l1 ⊢
  have HN := Lib.hid hn
  have HR := Lib.hid hr
  clear l2 l3 hn hr
  go_enter Tryd.func19, Tryd.ntmps19
  go_wp2_with fail
  go_loopw [3] (fun i wr => ∃ j : Nat, i = .int .i64 ((j : Int) + 1) ∧ j ≤ n ∧ (∀ q, q < j → ∀ (h : q + 1 < L.length), lessS L[q].key L[q + 1].key = true) ∧ Gr w wr) (fun i _ => n - (intOf i).toNat)
  case atStart => exact ⟨0, rfl, Nat.zero_le _, fun q h => absurd h (Nat.not_lt_zero _), Gr.refl _⟩
  case round =>
    obtain ⟨j, rfl, hj, hall, hgr⟩ := hrel
    have HAL := Lib.hid hall
    have HGR := Lib.hid hgr
    clear hall
    by_cases hlt : j + 1 < n
    · have h1 : j + 1 < L.length := by rw [← HN.out]; exact hlt
      obtain ⟨b, off, rfl, q0, -⟩ := HP.out j (by omega)
      obtain ⟨b', off', hbk, r0, -⟩ := HP.out (j + 1) h1
      injection hbk with hbk
      injection hbk with e1 e2
      subst e1 e2
      have c0 := hgr.cell q0
      have c1 := hgr.cell r0
      obtain ⟨x, hx⟩ : ∃ x, x = L[j].key := ⟨_, rfl⟩
      obtain ⟨y, hy⟩ : ∃ y, y = L[j + 1].key := ⟨_, rfl⟩
      rw [← hx] at c0
      rw [← hy] at c1
      clear q0 r0 hgr
      rcases hls : lessS x y with _ | _
      · have hno : ¬ rises L := fun h => by
          have := h j h1
          rw [← hx, ← hy, hls] at this
          cases this
        have HF : Hid (r = false) := Lib.hid (by
          rcases r with _ | _
          · rfl
          · exact absurd (HR.out.1 rfl) hno)
        have ht : Go.Op.bytesLess x.toList y.toList = false := hls
        clear hno hls hx hy
        go_wp2_with fail
        go_quiet (fail)
        go_wp2
        go_ret
        exact ⟨by rw [HF.out]; rfl, HGR.out.drewN _⟩
      · have ht : Go.Op.bytesLess x.toList y.toList = true := hls
        have HA2 : Hid (∀ q, q < j + 1 → ∀ (h : q + 1 < L.length), lessS L[q].key L[q + 1].key = true) := Lib.hid (fun q hq => by
          rcases Nat.lt_or_ge q j with e | e
          · exact HAL.out q e
          · obtain rfl : q = j := by omega
            intro h
            rw [← hx, ← hy]
            exact hls)
        clear hls hx hy
        go_wp2_with fail
        go_quiet (fail)
        go_wp2
        go_roundw
        case rel => exact ⟨j + 1, by go_num, by omega, HA2.out, HGR.out.drewN _⟩
        case measure => simp [intOf]; omega
    · have hrs : rises L := fun q h => HAL.out q (by rw [← HN.out] at h; omega) h
      have HF : Hid (r = true) := Lib.hid (HR.out.2 hrs)
      have HG := Lib.hid hgr
      clear hrs hgr
      go_wp2_with fail
      go_ret
      exact ⟨by rw [HF.out]; rfl, HG.out⟩

def FlatRel (L : List PR) (w : World) (f i : Value) (wr : World) : Prop :=
  ∃ k : Nat, i = .int .i64 (k : Int) ∧ k ≤ L.length ∧ SO wr w.heap.size f (kvs (L.take k)) ∧ Gr w wr
theorem kvs_take1 (L : List PR) (k : Nat) (h : k < L.length) : kvs (L.take (k + 1)) = kvs (L.take k) ++ [L[k].key, L[k].val] := by
  rw [List.take_succ_eq_append_getElem h, kvs_append]
  rfl
set_option maxRecDepth 100000 in
set_option maxHeartbeats 1000000 in
theorem flat_any (v : Value) (L : List PR) (w : World) (hv : PV w v L) (hl : L.length ≤ 8) :
    Calls Tryd.prog 21 #[v] w fun e w' => ∃ u, e = .returned u ∧ SO w' w.heap.size u (kvs L) ∧ Gr w w' := by
  obtain ⟨i0, hi, hz0, hz1, hz2⟩ := info_parts infoString
  have HI := Lib.hid (And.intro hi (And.intro hz0 (And.intro hz1 hz2)))
  clear hi hz0 hz1 hz2
  obtain ⟨A, c, rfl, l1, ⟨l2, _⟩, l3⟩ := hv
  have hc63 : c ≤ 9223372036854775807 := l2
  have HP := Lib.hid l3
  obtain ⟨n, hn⟩ : ∃ n, n = L.length := ⟨_, rfl⟩
  rw [← hn] at l1 hl ⊢
  have HN := Lib.hid hn
  clear l2 l3 hn
  obtain ⟨M, hM⟩ : ∃ M, M = madeCells (Value.string ⟨#[]⟩).cells (((2 * n : Nat) : Int).toNat * i0.size) := ⟨_, rfl⟩
  have hMs : M.size = (2 * n) * 1 := by rw [hM, size_madeCells, HI.out.2.2.1, Int.toNat_natCast]
  have hmk : ∀ W : World, (Instr.makeSlice 47 (.int .i64 0) (.int .i64 (2 * (n : Int)))).run Tryd.prog W = .ok (.slice (some ⟨W.heap.size, 0, none⟩) 0 (2 * n)) (W.alloc (.cells M 9)) := fun W => by
    have h := run_make (P := Tryd.prog) W 47 9 i0 (.string ⟨#[]⟩) Tryd.underlying47 HI.out.1 HI.out.2.1 .i64 .i64 0 ((2 * n : Nat) : Int) (by omega) (by omega) (by rw [HI.out.2.2.2]; omega) (by omega)
    rw [← hM, Int.toNat_natCast] at h
    rw [show (2 * (n : Int)) = ((2 * n : Nat) : Int) from by omega]
    exact h
  have hown0 : (w.alloc (.cells M 9)).ownsRow w.heap.size 9 1 (.slice (some ⟨w.heap.size, 0, none⟩) 0 (2 * n)) 0 [] := World.ownsRow_made w M (2 * n) (Nat.le_refl _) (by unfold maxLen; omega) hMs
  have HO : Hid (SO (w.alloc (.cells M 9)) w.heap.size (.slice (some ⟨w.heap.size, 0, none⟩) 0 (2 * n)) (kvs (L.take 0))) := Lib.hid hown0
  have G0 := Lib.hid (gr_box w (.cells M 9))
  clear hM hMs hown0
  go_enter Tryd.func21, Tryd.ntmps21
  go_wp2_with fail
  go_loopw [3, 12] (fun f i wr => FlatRel L w f i wr) (fun _ i _ => n - (intOf i).toNat)
  case atStart => exact ⟨0, rfl, Nat.zero_le _, HO.out, G0.out⟩
  case round =>
    obtain ⟨k, rfl, hk, hf, hgr⟩ := hrel
    rw [← HN.out] at hk
    have HF := Lib.hid hf
    have HG := Lib.hid hgr
    have hff := own_form hf
    have hlk : (kvs (L.take k)).length = 2 * k := by rw [kvs_len, List.length_take, ← HN.out]; omega
    rw [hlk] at hff
    obtain ⟨Af, cf, rfl, -, -⟩ := hff
    have HLK := Lib.hid hlk
    clear hf hlk hmk
    by_cases hlt : k < n
    · have h1 : k < L.length := by rw [← HN.out]; exact hlt
      obtain ⟨b, off, rfl, q0, q1⟩ := HP.out k h1
      have HK := Lib.hid (kvs_take1 L k h1)
      obtain ⟨x, hx⟩ : ∃ x, x = L[k].key := ⟨_, rfl⟩
      obtain ⟨y, hy⟩ : ∃ y, y = L[k].val := ⟨_, rfl⟩
      rw [← hx, ← hy] at HK
      rw [← hx] at q0
      rw [← hy] at q1
      have c0 := hgr.cell q0
      have c1 := hgr.cell q1
      clear hx hy q0 q1 hgr
      go_wp2_with (at_builtin; refine wpList_push_n (w0 := w) rfl (.tmp 16) (.tmp 21) rfl (.slice Af (2 * k) cf) (.slice (some ⟨wr.heap.size + 1, 0, none⟩) 2 2) (kvs (L.take k)) [x, y] (2 * k) 2 HLK.out.symm rfl rfl ((HF.out.gr (gr_box _ _)).gr (gr_box _ _)) rfl (sv_two_at _ x y _ (by simp)) (by omega) ((HG.out.alloc _).alloc _) ?_; intro A5 c5 w5 hown5 g5)
      have HO5 : Hid (SO w5 w.heap.size (.slice A5 (2 * k + 2) c5) (kvs (L.take (k + 1)))) := Lib.hid (by rw [HK.out]; exact hown5)
      clear hown5 c0 c1
      go_wp2
      go_roundw
      case rel => exact ⟨k + 1, by go_num, by rw [← HN.out]; omega, HO5.out, g5⟩
      case measure => simp [intOf]; omega
    · have hke : k = n := by omega
      have HE : Hid (kvs (L.take k) = kvs L) := Lib.hid (by rw [List.take_of_length_le (by rw [← HN.out]; omega)])
      clear hgr
      go_wp2_with fail
      go_ret
      exact ⟨_, rfl, by rw [← HE.out]; exact HF.out, HG.out⟩

/-- What packed answers. -/
noncomputable def packedVal (fs : List ByteArray) : Value := by
  classical exact if okBlk fs then .tuple #[.string (frameB (bs (packL fs))), .int .i64 0] else .tuple #[.string ⟨#[]⟩, .int .i64 2]
theorem packedVal_yes {fs : List ByteArray} (h : okBlk fs) : packedVal fs = .tuple #[.string (frameB (bs (packL fs))), .int .i64 0] := by unfold packedVal; rw [if_pos h]
theorem packedVal_no {fs : List ByteArray} (h : ¬ okBlk fs) : packedVal fs = .tuple #[.string ⟨#[]⟩, .int .i64 2] := by unfold packedVal; rw [if_neg h]
set_option maxRecDepth 100000 in
set_option maxHeartbeats 1000000 in
theorem packed_any (v : Value) (fs : List ByteArray) (w : World) (hv : SV w v fs) (hmax : ∀ s ∈ fs, s.size ≤ maxLen) (hH : Halves w) :
    Calls Tryd.prog 20 #[v] w fun e w' => e = .returned (packedVal fs) ∧ Gr w w' := by
  have H1 := Lib.hid (pack_any v fs w hv hmax)
  have HH := Lib.hid hH
  clear hv hmax hH
  by_cases hok : okPack fs
  · have HV := Lib.hid (packVal_yes hok)
    by_cases hfr : (packL fs).length ≤ 65536
    · have HR := Lib.hid (packedVal_yes ⟨hok, hfr⟩)
      have H2 := Lib.hid (fun w1 (g : Gr w w1) => frame_yes (bs (packL fs)) (by rw [bs_size]; exact hfr) w1 (HH.out.gr g))
      obtain ⟨F, hF⟩ : ∃ F, F = frameB (bs (packL fs)) := ⟨_, rfl⟩
      rw [← hF] at H2 HR
      obtain ⟨bd, hbd⟩ : ∃ F, F = bs (packL fs) := ⟨_, rfl⟩
      rw [← hbd] at H2 HV
      clear hok hfr hF hbd
      go_enter Tryd.func20, Tryd.ntmps20
      go_wp2_with fail
      refine H1.out.mono ?_
      rintro e w1 ⟨rfl, g1⟩
      rw [HV.out]
      go_wp2_with fail
      refine (H2.out _ g1).mono ?_
      rintro e w2 ⟨rfl, g2⟩
      go_wp2_with fail
      go_ret2
      exact ⟨by rw [HR.out]; rfl, g1.trans g2⟩
    · have HR := Lib.hid (packedVal_no (fs := fs) (fun h => hfr h.2))
      have H2 := Lib.hid (fun w1 => frame_no (bs (packL fs)) (by rw [bs_size]; omega) w1)
      obtain ⟨bd, hbd⟩ : ∃ F, F = bs (packL fs) := ⟨_, rfl⟩
      rw [← hbd] at H2 HV
      clear hok hfr hbd
      go_enter Tryd.func20, Tryd.ntmps20
      go_wp2_with fail
      refine H1.out.mono ?_
      rintro e w1 ⟨rfl, g1⟩
      rw [HV.out]
      go_wp2_with fail
      refine (H2.out _).mono ?_
      rintro e w2 ⟨rfl, rfl⟩
      go_wp2_with fail
      go_ret2
      exact ⟨by rw [HR.out]; rfl, g1⟩
  · have HV := Lib.hid (packVal_no hok)
    have HR := Lib.hid (packedVal_no (fs := fs) (fun h => hok h.1))
    clear hok
    go_enter Tryd.func20, Tryd.ntmps20
    go_wp2_with fail
    refine H1.out.mono ?_
    rintro e w1 ⟨rfl, g1⟩
    rw [HV.out]
    go_wp2_with fail
    go_ret2
    exact ⟨by rw [HR.out]; rfl, g1⟩
end Go.Proofs.YtnihnkcmmnlaaaaDoor
