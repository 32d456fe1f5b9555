/- Walks: one operation; the operations in order. -/
import Derived.Test.YtonlplfjiaejhaaDraftL
namespace Go.Proofs.Ytonlplfjiaejhaa
open Go.RowKit

theorem do1_any (v : Value) (M : List FB) (o : O) (B : Nat) (w : World) (hv : DR w B v M) (hB : B ≤ w.heap.size) (hf : Fit (files M)) (ho : FitO o) :
    Calls Try.prog 25 #[v, .agg #[.int .i64 o.kind, .string o.name, .string o.bytes, .int .i64 o.at_]] w fun e w' => RetDraft (files M) o B v M w e w' := by
  obtain ⟨kd, nm, bts, at_⟩ := o
  show Calls Try.prog 25 #[v, .agg #[.int .i64 kd, .string nm, .string bts, .int .i64 at_]] w fun e w' => RetDraft (files M) ⟨kd, nm, bts, at_⟩ B v M w e w'
  by_cases h1 : kd < 1
  · exact do_low v M kd nm bts at_ B w hv hB hf ho h1
  by_cases h4 : 4 < kd
  · exact do_high v M kd nm bts at_ B w hv hB hf ho h4
  rcases hnm : nameOk nm with _ | _
  · exact do_badname v M kd nm bts at_ B w hv hB hf ho (by omega) (by omega) hnm
  by_cases hfd : findF (files M) nm < M.length
  · by_cases e1 : kd = 1
    · subst e1
      by_cases hsz : 1048576 < M[findF (files M) nm].1.size + bts.size
      · exact do_longold v M nm bts at_ B w hv hB hf ho hnm _ rfl hfd hsz
      · exact do_grow v M nm bts at_ B w hv hB hf ho hnm _ rfl hfd hsz
    by_cases e2 : kd = 2
    · subst e2
      exact do_sync v M nm bts at_ B w hv hB hf ho hnm _ rfl hfd
    by_cases e3 : kd = 3
    · subst e3
      by_cases ha : at_ < 0
      · exact do_cutlow v M nm bts at_ B w hv hB hf ho hnm _ rfl hfd ha
      by_cases hs : (M[findF (files M) nm].1.size : Int) < at_
      · exact do_cuthigh v M nm bts at_ B w hv hB hf ho hnm _ rfl hfd ha hs
      obtain ⟨k, rfl⟩ := Int.eq_ofNat_of_zero_le (show 0 ≤ at_ by omega)
      exact do_cut v M nm bts k B w hv hB hf ho hnm _ rfl hfd (by omega)
    obtain rfl : kd = 4 := by omega
    exact do_drop v M nm bts at_ B w hv hB hf ho hnm _ rfl hfd
  · by_cases e1 : kd = 1
    · subst e1
      by_cases h64 : 64 ≤ M.length
      · exact do_full v M nm bts at_ B w hv hB hf ho hnm hfd h64
      by_cases hsz : 1048576 < bts.size
      · exact do_longnew v M nm bts at_ B w hv hB hf ho hnm hfd h64 hsz
      · exact do_new v M nm bts at_ B w hv hB hf ho hnm hfd h64 hsz
    · exact do_nofile v M kd nm bts at_ B w hv hB hf ho (by omega) (by omega) e1 hnm hfd

structure DoInv (L : List F) (ops : List O) (k : Nat) (v : Value) (M : List FB) (w wr : World) : Prop where
  hk : k ≤ ops.length
  hrun : run L ops = bump k (run (files M) (ops.drop k))
  dr : DR wr (w.heap.size + 1 + 1) v M
  fit : Fit (files M)
  len : M.length ≤ max L.length 64
  gr : Gr w wr
  lo : w.heap.size + 1 < wr.heap.size
  cr : wr.cell? ⟨w.heap.size + 1, 0, none⟩ = some (.slice none 0 0)
  fr : wr.frozen? ⟨w.heap.size + 1, 0, none⟩ = false
def DoRel (L : List F) (ops : List O) (w : World) (v : Value) (i : Value) (wr : World) : Prop := ∃ (k : Nat) (A : Option Addr) (n c : Nat) (M : List FB), v = .slice A n c ∧ i = .int .i64 (k : Int) ∧ DoInv L ops k (.slice A n c) M w wr
theorem DoInv.rel {L : List F} {ops : List O} {k : Nat} {v : Value} {M : List FB} {w wr : World} (h : DoInv L ops k v M w wr) {i : Value} (hi : i = .int .i64 (k : Int)) : DoRel L ops w v i wr := by
  obtain ⟨A, c, hv, _⟩ := own_form h.dr.row
  exact ⟨k, A, _, c, M, hv, hi, by rw [← hv]; exact h⟩
theorem DoInv.next {L : List F} {ops : List O} {k : Nat} {v v' : Value} {M M' : List FB} {o : O} {w wr w' : World} (inv : DoInv L ops k v M w wr) (hk : k < ops.length) (ho : o = ops[k]) (he : (step (files M) o).1 = 0) (hf : files M' = (step (files M) o).2)
    (hd : DR w' (w.heap.size + 1 + 1) v' M') (hb : Below (w.heap.size + 1 + 1) wr w') : DoInv L ops (k + 1) v' M' w w' := by
  have hdr : ops.drop k = o :: ops.drop (k + 1) := by rw [ho]; exact List.drop_eq_getElem_cons hk
  have hlo := inv.lo
  refine ⟨by omega, ?_, hd, by rw [hf]; exact step_fit inv.fit, ?_, Below.trans inv.gr (Below.mono hb (by omega)), Nat.lt_of_lt_of_le hlo hb.size, ?_, ?_⟩
  · rw [inv.hrun, hdr, run_ok he, bump_bump, Nat.add_comm 1 k, hf]
  · have := step_len (L := files M) (o := o)
    rw [← hf, files_len, files_len] at this
    have := inv.len
    omega
  · rw [hb.cell (p := ⟨w.heap.size + 1, 0, none⟩) (show w.heap.size + 1 < w.heap.size + 1 + 1 by omega)]; exact inv.cr
  · rw [hb.frozen (p := ⟨w.heap.size + 1, 0, none⟩) (show w.heap.size + 1 < w.heap.size + 1 + 1 by omega)]; exact inv.fr
theorem DoInv.no {L : List F} {ops : List O} {k : Nat} {v : Value} {M : List FB} {o : O} {w wr : World} (inv : DoInv L ops k v M w wr) (hk : k < ops.length) (ho : o = ops[k]) (he : (step (files M) o).1 ≠ 0) : run L ops = (files M, k, (step (files M) o).1) := by
  have hd : ops.drop k = o :: ops.drop (k + 1) := by rw [ho]; exact List.drop_eq_getElem_cons hk
  rw [inv.hrun, hd, run_no he]
  simp [bump]
theorem DoInv.end_ {L : List F} {ops : List O} {k : Nat} {v : Value} {M : List FB} {w wr : World} (inv : DoInv L ops k v M w wr) (hk : ¬ k < ops.length) : run L ops = (files M, ops.length, 0) := by
  have := inv.hk
  have e : k = ops.length := by omega
  rw [inv.hrun, List.drop_of_length_le (by omega), e]
  simp [run, bump]
/-- The last store: the disk. -/
theorem RetDo.mk {L L' : List F} {ops : List O} {k e0 : Nat} {v : Value} {w w2 : World} {e : Ending} (hr : run L ops = (L', k, e0)) (hg : Gr w w2) {B : Nat} (hB : w.heap.size + 1 < B) (hv : FO w2 B v L') (he : e = .returned (.tuple #[.agg #[v], .int .i64 (k : Int), .int .i64 (e0 : Int)])) (u : Value) :
    RetDo L ops w e (w2.setCell ⟨w.heap.size + 1, 0, none⟩ u) := by
  refine ⟨v, by rw [hr]; exact he, ?_, Below.setCell hg (show w.heap.size ≤ w.heap.size + 1 by omega) _⟩
  rw [hr]
  refine FO.le (FO.set hv (fun g hg e => ?_) 0 u) (by omega)
  have := (World.ownsRow.lt hv g hg).1
  omega

set_option maxRecDepth 100000 in
set_option maxHeartbeats 4000000 in
theorem do_any (v vo : Value) (L : List F) (ops : List O) (w : World) (hv : FV w v L) (ho : OV w vo ops) (hf : Fit L) (hfo : ∀ o ∈ ops, FitO o) (hlen : L.length * 48 ≤ 140737488355328) :
    Calls Try.prog 13 #[.agg #[v], vo] w fun e w' => RetDo L ops w e w' := by
  obtain ⟨A, c, hva, _⟩ := id hv
  obtain ⟨Ao, co, hvo, ol, ⟨oc, _⟩, o3⟩ := id ho
  have HV := Lib.hid hv
  have HOO := Lib.hid o3
  have HFO := Lib.hid hfo
  have hoc63 : co ≤ 9223372036854775807 := oc
  subst hva hvo
  have HC := Lib.hid (fun (w1 : World) (g : Gr w w1) => draftsOf_any _ L w1 (HV.out.gr g) hf (by omega))
  clear hv ho o3 hfo oc
  obtain ⟨n, hn⟩ : ∃ n, n = L.length := ⟨_, rfl⟩
  obtain ⟨m, hm⟩ : ∃ n, n = ops.length := ⟨_, rfl⟩
  have HN := Lib.hid hn
  have HM := Lib.hid hm
  rw [← hn] at HC HV
  rw [← hn, ← hm]
  rw [← hm] at ol
  clear hn hm
  go_enter Try.func13, Try.ntmps13
  go_wp2_with fail
  refine (HC.out _ ((gr_box w _).alloc _)).mono ?_
  rintro e w1 ⟨v1, M1, rfl, hfl, hdr, g1⟩
  have HST : Hid (DoRel L ops w v1 (.int .i64 0) w1) := by
    refine DoInv.rel (k := 0) (M := M1) ⟨Nat.zero_le _, by rw [List.drop_zero, bump_zero, hfl], hdr.le (by simp), by rw [hfl]; exact hf, ?_, ((gr_box w _).alloc _).trans g1, by have := g1.size; simp at this; omega, g1.cell (by simp), g1.frozen (by simp) (by simp)⟩ rfl
    rw [← files_len, hfl]
    exact Nat.le_max_left _ _
  clear hfl hdr g1 hf
  go_wp2_with fail
  go_loopw [7, 16] (fun v i wr => DoRel L ops w v i wr) (fun _ i _ => m - (intOf i).toNat)
  case atStart => exact HST.out
  case round =>
    obtain ⟨k, Av, nv, cv, M, rfl, rfl, inv⟩ := hrel
    have HI := Lib.hid inv
    have hkm : k ≤ m := by rw [HM.out]; exact inv.hk
    clear inv HST
    by_cases hlt : k < m
    · obtain ⟨b, off, rfl, hc0⟩ := HOO.out k (by rw [← HM.out]; exact hlt)
      obtain ⟨o, hoe⟩ : ∃ o, o = ops[k]'(by rw [← HM.out]; exact hlt) := ⟨_, rfl⟩
      rw [← hoe] at hc0
      have hfo : FitO o := HFO.out o (by rw [hoe]; exact List.getElem_mem _)
      have HOE := Lib.hid hoe
      obtain ⟨h0, h1, h2, h3⟩ := hc0
      have r0 := HI.out.gr.cell h0
      have r1 := HI.out.gr.cell h1
      have r2 := HI.out.gr.cell h2
      have r3 := HI.out.gr.cell h3
      obtain ⟨W3, hW3, G3, x0, x1, x2, x3, hz3⟩ := obox o wr
      have HC1 := Lib.hid (do1_any (.slice Av nv cv) M o (w.heap.size + 1 + 1) W3 (HI.out.dr.gr G3) (by have := HI.out.lo; have := G3.size; omega) HI.out.fit hfo)
      have HG3 := Lib.hid G3
      clear hoe h0 h1 h2 h3 hfo G3
      go_upto_region 5 with (fail)
      rw [← hW3]
      clear hW3 r0 r1 r2 r3
      go_wp2_with fail
      refine HC1.out.mono ?_
      rintro e w4 ⟨hb, ⟨he, v4, M4, rfl, hf4, hd4⟩ | ⟨he, rfl, hd4⟩⟩
      · have HQ := Lib.hid (HI.out.next (by rw [← HM.out]; exact hlt) HOE.out he hf4 hd4 (Below.trans (Below.mono HG3.out (by have := HI.out.lo; omega)) hb))
        obtain ⟨A4, c4, hv4, -, -⟩ := own_form hd4.row
        obtain ⟨n4, hn4⟩ : ∃ q, q = M4.length := ⟨_, rfl⟩
        rw [← hn4] at hv4
        subst hv4
        clear hb he hf4 hd4 x0 x1 x2 x3 hn4
        go_wp2_with fail
        go_roundw
        case rel => exact HQ.out.rel (by go_num)
        case measure => simp [intOf]; omega
      · have ht : (((step (files M) o).1 : Int) != 0) = true := by rw [bne_iff_ne]; omega
        have HR := Lib.hid (HI.out.no (by rw [← HM.out]; exact hlt) HOE.out he)
        have hb2 : Below (w.heap.size + 1 + 1) wr w4 := Below.trans (Below.mono HG3.out (by have := HI.out.lo; omega)) hb
        have yc : w4.cell? ⟨w.heap.size + 1, 0, none⟩ = some (.slice none 0 0) := by rw [hb2.cell (p := ⟨w.heap.size + 1, 0, none⟩) (show w.heap.size + 1 < w.heap.size + 1 + 1 by omega)]; exact HI.out.cr
        have yf : w4.frozen? ⟨w.heap.size + 1, 0, none⟩ = false := by rw [hb2.frozen (p := ⟨w.heap.size + 1, 0, none⟩) (show w.heap.size + 1 < w.heap.size + 1 + 1 by omega)]; exact HI.out.fr
        have hlo4 : w.heap.size + 1 < w4.heap.size := Nat.lt_of_lt_of_le HI.out.lo hb2.size
        have HG4 : Hid (Gr w w4) := Lib.hid (Below.trans HI.out.gr (Below.mono hb2 (by omega)))
        have HW := Lib.hid (written_any (.slice Av nv cv) M (w.heap.size + 1 + 1) w4 hd4 HI.out.fit (by have := HI.out.len; omega))
        clear hb he hd4 x0 x1 x2 x3 hb2
        go_wp2_with fail
        refine HW.out.mono ?_
        rintro e w5 ⟨v5, rfl, hf5, g5⟩
        have zc := g5.cell yc
        have zf := g5.frozen hlo4 yf
        have HF5 := Lib.hid hf5
        have HG5 : Hid (Gr w w5) := Lib.hid (HG4.out.trans g5)
        obtain ⟨A5, c5, hv5, -, -⟩ := own_form hf5
        obtain ⟨n5, hn5⟩ : ∃ q, q = (files M).length := ⟨_, rfl⟩
        rw [← hn5] at hv5
        subst hv5
        clear yc yf hf5 g5 hn5
        go_wp2_with fail
        refine bodyPost_ret (v := .tuple #[.agg #[.slice A5 n5 c5], .int .i64 (k : Int), .int .i64 ((step (files M) o).1 : Int)]) (by simp [results, Try.results13, go_sem, zc]) rfl ?_
        exact RetDo.mk HR.out HG5.out hlo4 HF5.out rfl _
    · have HR := Lib.hid (HI.out.end_ (by rw [← HM.out]; exact hlt))
      have yc := HI.out.cr
      have yf := HI.out.fr
      have hlo4 := HI.out.lo
      have HG4 := Lib.hid HI.out.gr
      have HW := Lib.hid (written_any (.slice Av nv cv) M (w.heap.size + 1 + 1) wr HI.out.dr HI.out.fit (by have := HI.out.len; omega))
      go_wp2_with fail
      refine HW.out.mono ?_
      rintro e w5 ⟨v5, rfl, hf5, g5⟩
      have zc := g5.cell yc
      have zf := g5.frozen hlo4 yf
      have HF5 := Lib.hid hf5
      have HG5 : Hid (Gr w w5) := Lib.hid (HG4.out.trans g5)
      obtain ⟨A5, c5, hv5, -, -⟩ := own_form hf5
      obtain ⟨n5, hn5⟩ : ∃ q, q = (files M).length := ⟨_, rfl⟩
      rw [← hn5] at hv5
      subst hv5
      clear yc yf hf5 g5 hn5
      go_wp2_with fail
      refine bodyPost_ret (v := .tuple #[.agg #[.slice A5 n5 c5], .int .i64 (m : Int), .int .i64 0]) (by simp [results, Try.results13, go_sem, zc]) rfl ?_
      exact RetDo.mk HR.out HG5.out hlo4 HF5.out (by rw [HM.out]; rfl) _
end Go.Proofs.Ytonlplfjiaejhaa
