/- Walk: packets of parts, one part behind the other. -/
import Derived.Test.YtfmfeokjnkbpeaaWiC
namespace Go.Proofs.Ytfmfeokjnkbpeaa.Wi
open Go.RowKit

set_option maxRecDepth 100000 in
set_option maxHeartbeats 4000000 in
theorem bagOf_any (v : Value) (Ls : List (List P)) (w : World) (hv : SP w v Ls) (hf : ∀ L ∈ Ls, Fit L) (hlen : Ls.flatten.length * 40 ≤ 140737488355328) :
    Calls Try.prog 24 #[v] w fun e w' => RetBag Ls.flatten w e w' := by
  obtain ⟨A, c, rfl, hc1, hc2, hS⟩ := hv
  obtain ⟨i0, hi, hz0, hz1, hz2⟩ := info_parts infoPacket
  have HS := Lib.hid hS
  have HF := Lib.hid hf
  obtain ⟨n, hn⟩ : ∃ n, n = Ls.length := ⟨_, rfl⟩
  have HN := Lib.hid hn
  rw [← hn] at hc2
  rw [← hn]
  clear hS hf hn
  go_enter Try.func24, Try.ntmps24
  go_wp2_with fail
  go_loopw [3, 10] (fun b i wr => OutRel Ls w b i wr) (fun _ i _ => n - (intOf i).toNat)
  case atStart => exact ⟨0, Nat.zero_le _, rfl, PO.nil _ _, Gr.refl _⟩
  case round =>
    obtain ⟨k, hk, rfl, hown, hgr⟩ := hrel
    rw [← HN.out] at hk
    have HO := Lib.hid hown
    clear hown
    by_cases hlt : k < n
    · have hkL : k < Ls.length := by rw [← HN.out]; exact hlt
      obtain ⟨b, off, u, rfl, hu, hp⟩ := HS.out k hkL
      have cu := hgr.cell hu
      have hfl := flatten_le hkL
      have HFS := Lib.hid (flatten_snoc hkL)
      have hFL := HF.out _ (List.getElem_mem hkL)
      obtain ⟨L, hL⟩ : ∃ L, L = Ls[k] := ⟨_, rfl⟩
      rw [← hL] at hp hfl HFS hFL
      obtain ⟨Lp, hLp⟩ : ∃ L, L = (Ls.take k).flatten := ⟨_, rfl⟩
      rw [← hLp] at hfl HFS HO
      obtain ⟨Au, cc, rfl, hl1, ⟨hl2, -⟩, hl3⟩ := hp
      unfold maxLen at hl2
      have HC := Lib.hid hl3
      have HFL := Lib.hid hFL
      obtain ⟨m, hm⟩ : ∃ m, m = L.length := ⟨_, rfl⟩
      have HM := Lib.hid hm
      have HG := Lib.hid hgr
      rw [← hm] at hl1 cu
      have hcnt : (Lp.length + m) * 40 ≤ 140737488355328 := by rw [hm]; omega
      clear hm hl3 hFL hu hL hLp hgr hfl
      go_wp2_with fail
      go_loopw [3, 16] (fun b i wr => InRel Lp L w b i wr) (fun _ i _ => m - (intOf i).toNat)
      case atStart => exact ⟨0, Nat.zero_le _, rfl, by rw [List.take_zero, List.append_nil]; exact HO.out, HG.out⟩
      case round =>
        obtain ⟨q, hq, rfl, hown2, hgr2⟩ := hrel
        rw [← HM.out] at hq
        have HO2 := Lib.hid hown2
        have HG2 := Lib.hid hgr2
        clear hown2
        by_cases hqm : q < m
        · have hqL : q < L.length := by rw [← HM.out]; exact hqm
          obtain ⟨pb, po, rfl, p0, p1, p2, p3⟩ := HC.out q hqL
          replace p0 := hgr2.cell p0
          replace p1 := hgr2.cell p1
          replace p2 := hgr2.cell p2
          replace p3 := hgr2.cell p3
          have hfit := HFL.out _ (List.getElem_mem hqL)
          have HIN := Lib.hid (in_step (Lp := Lp) hqL)
          obtain ⟨p, hp⟩ : ∃ p, p = L[q] := ⟨_, rfl⟩
          rw [← hp] at p0 p1 p2 p3 hfit HIN
          have HCL := Lib.hid (clone_any p.body hfit)
          obtain ⟨N, hN⟩ : ∃ N, N = (Lp ++ L.take q).length := ⟨_, rfl⟩
          have hNq : N = Lp.length + q := by rw [hN, List.length_append, List.length_take, ← HM.out, Nat.min_eq_left hq]
          have hRow : wr.ownsRow w.heap.size 31 4 u3 N (prows (Lp ++ L.take q)) := by rw [hN]; exact HO2.out
          have HR := Lib.hid hRow
          have HPR := Lib.hid (prows_snoc (Lp ++ L.take q) p)
          have hc1 : N + 1 ≤ maxLen := by unfold maxLen; omega
          have hc2 : (N + 1) * 40 ≤ 140737488355328 := by omega
          have HCC := Lib.hid (And.intro hc1 hc2)
          have HNN := Lib.hid hN
          clear hRow hN hNq hp hfit hgr2 hc1 hc2
          go_wp2_with fail
          refine (HCL.out _).mono ?_
          rintro e w1 ⟨rfl, g1⟩
          have b0 : w1.cell? ⟨wr.heap.size, 0, none⟩ = some (.int .i64 p.id) := g1.cell (by simp)
          have b1 : w1.cell? ⟨wr.heap.size, 1, none⟩ = some (.int .i64 p.src) := g1.cell (by simp)
          have b2 : w1.cell? ⟨wr.heap.size, 2, none⟩ = some (.int .i64 p.dst) := g1.cell (by simp)
          have b3 : w1.cell? ⟨wr.heap.size, 3, none⟩ = some (.string p.body) := g1.cell (by simp)
          have f3 : w1.frozen? ⟨wr.heap.size, 3, none⟩ = false := g1.frozen (by simp) (by simp)
          have G1 := Lib.hid (((gr_box wr _).trans g1 : Gr wr w1))
          clear g1 p0 p1 p2 p3
          go_wp2_with (at_builtin; refine wpList_append_sl _ rfl (.tmp 24) (.tmp 26) 22 rfl w.heap.size 31 i0 _ 4 40 Try.underlying22 hi hz0 hz1 hz2 rfl (by decide) u3 N (prows (Lp ++ L.take q)) rfl ?c1 (.slice (some ⟨w1.heap.size, 0, none⟩) 1 1) 1 [.int .i64 p.id, .int .i64 p.src, .int .i64 p.dst, .string p.body] rfl ?c2 ?c3 HCC.out.1 HCC.out.2 ?c4 (N + 1) rfl ?_)
          case c1 => exact own_gr (own_set_other (own_gr HR.out G1.out) (fun e => by have := (HR.out.lt _ e).2; omega) _ _) (gr_box _ _)
          case c2 =>
            have h := sl_new (w1.setCell ⟨wr.heap.size, 3, none⟩ (.string p.body)) #[.int .i64 p.id, .int .i64 p.src, .int .i64 p.dst, .string p.body] 31 1 4 rfl (by unfold maxLen; omega)
            rw [show (w1.setCell ⟨wr.heap.size, 3, none⟩ (.string p.body)).heap.size = w1.heap.size by simp [World.setCell]] at h
            exact h
          case c3 => exact one_row p
          case c4 =>
            have h1 := HG2.out.size
            have h2 := G1.out.size
            simp [World.setCell]
            omega
          intro A' c' w' hown3 hgrow hat
          have hB : w.heap.size ≤ ((w1.setCell ⟨wr.heap.size, 3, none⟩ (.string p.body)).alloc (.cells #[.int .i64 p.id, .int .i64 p.src, .int .i64 p.dst, .string p.body] 31)).heap.size := by
            have h1 := HG2.out.size
            have h2 := G1.out.size
            simp [World.setCell]
            omega
          have hrow := own_gr (own_set_other (own_gr HR.out G1.out) (fun e => by have := (HR.out.lt _ e).2; omega) 3 (.string p.body)) (gr_box (w1.setCell ⟨wr.heap.size, 3, none⟩ (.string p.body)) (.cells #[.int .i64 p.id, .int .i64 p.src, .int .i64 p.dst, .string p.body] 31))
          have G3 : Gr w w' := gr_of_grown (Gr.alloc (Below.setCell (HG2.out.trans G1.out) (show w.heap.size ≤ wr.heap.size from HG2.out.size) _) _) hrow hgrow hB
          have HP : Hid (PO w' w.heap.size (.slice A' (N + 1) c') (Lp ++ L.take (q + 1))) := by
            unfold PO
            rw [← HIN.out, List.length_append, ← HNN.out, ← HPR.out]
            exact hown3
          have HG3 := Lib.hid G3
          clear hB hrow G3 hown3 hgrow hat b0 b1 b2 b3 f3
          go_wp2
          go_roundw
          case rel => exact ⟨q + 1, by rw [← HM.out]; omega, by go_num, HP.out, HG3.out⟩
          case measure => simp [intOf]; omega
        · have hqe : q = m := by omega
          have HP : Hid (PO wr w.heap.size u3 (Ls.take (k + 1)).flatten) := by
            have e : L.take q = L := List.take_of_length_le (by rw [← HM.out]; omega)
            rw [HFS.out]
            rw [e] at HO2
            exact HO2.out
          clear hqe
          go_wp2_with fail
          go_roundw
          case rel => exact ⟨k + 1, by rw [← HN.out]; omega, by go_num, HP.out, HG2.out⟩
          case measure => simp [intOf]; omega
    · have he : Ls.take k = Ls := List.take_of_length_le (by rw [← HN.out]; omega)
      rw [he] at HO
      go_wp2_with fail
      go_ret
      exact ⟨_, rfl, HO.out, hgr⟩
end Go.Proofs.Ytfmfeokjnkbpeaa.Wi
