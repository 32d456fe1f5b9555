/- Walks: the program's Copy of a transaction. -/
import Derived.Test.YtlgljanofppleaaCutD
namespace Go.Proofs.Ytlgljanofppleaa
open Go.RowKit Go.Joins

theorem own_blk {w : World} {B : Nat} {t : TypeId} {size n c : Nat} {A : Option Addr} {xs : List Value} (h : w.ownsRow B t size (.slice A n c) n xs) (hn : 0 < n) : ∃ g, A = some ⟨g, 0, none⟩ := by
  rcases h.2 with ⟨hh, h2⟩ | ⟨g', cap, cur, hh, hb, hg, hn, hm, hcs, ht⟩
  · injection hh with e1 e2 e3
    omega
  · injection hh with e1 e2 e3
    exact ⟨g', e1⟩
theorem own_free {w : World} {B : Nat} {t : TypeId} {size g n c : Nat} {xs : List Value} (h : w.ownsRow B t size (.slice (some ⟨g, 0, none⟩) n c) n xs) (j : Nat) : w.frozen? ⟨g, j, none⟩ = false := by
  rcases h.2 with ⟨hh, h2⟩ | ⟨g', cap, cur, hh, hb, hg, hn, hm, hcs, ht⟩
  · cases hh
  · injection hh with e1 e2 e3
    injection e1 with e1
    injection e1 with e1
    subst e1
    exact unfrozen_of_block hg j
theorem own_cell {w : World} {B : Nat} {t : TypeId} {size g n c : Nat} {xs : List Value} (h : w.ownsRow B t size (.slice (some ⟨g, 0, none⟩) n c) n xs) {j : Nat} {u : Value} (hj : xs[j]? = some u) : w.cell? ⟨g, j, none⟩ = some u := by
  obtain ⟨A, c', hv, h1, h2, h3, h4⟩ := own_sl h
  injection hv with e1 e2 e3
  obtain ⟨b, off, ha, hc⟩ := h4 j u hj
  rw [← e1] at ha
  injection ha with ha
  injection ha with e4 e5
  subst e4 e5
  rw [Nat.zero_add] at hc
  exact hc
/-- A value that lies there already, stored again. -/
theorem own_again {w : World} {B : Nat} {t : TypeId} {size g n c : Nat} {xs : List Value} (h : w.ownsRow B t size (.slice (some ⟨g, 0, none⟩) n c) n xs) {j : Nat} {u : Value} (hj : xs[j]? = some u) : (w.setCell ⟨g, j, none⟩ u).ownsRow B t size (.slice (some ⟨g, 0, none⟩) n c) n xs ∧ Kp (some g) w (w.setCell ⟨g, j, none⟩ u) := by
  obtain ⟨h1, h2⟩ := h.stored j u
  refine ⟨?_, h2⟩
  have : xs.set j u = xs := by
    refine List.ext_getElem? fun i => ?_
    by_cases e : j = i
    · subst e
      rw [List.getElem?_set_self (List.getElem?_eq_some_iff.1 hj).1, hj]
    · rw [List.getElem?_set_ne e]
  rw [this] at h1
  exact h1
theorem tocells_at {L : List TO} {k : Nat} (hk : k < L.length) : (tocells L)[k * 4]? = some (.int .i64 L[k].kind) ∧ (tocells L)[k * 4 + 1]? = some (.string L[k].key) ∧ (tocells L)[k * 4 + 2]? = some (.string L[k].elem) ∧ (tocells L)[k * 4 + 3]? = some (.int .i64 L[k].n) := by
  have at_ : ∀ r, r < 4 → (tocells L)[k * 4 + r]? = (tocell L[k])[r]? := fun r hr => rows_at tocell 4 tocell_len L k r hk hr
  exact ⟨at_ 0 (by decide), at_ 1 (by decide), at_ 2 (by decide), at_ 3 (by decide)⟩
/-- What Copy has in memory. -/
structure CpS (w : World) (t : TX) (A : Option Addr) (n c : Nat) (wr : World) : Prop where
  b : wr.heap[w.heap.size]? = some (.cells (tcs t (.slice A n c)) 44 (0, 0))
  r : wr.heap[w.heap.size + 1]? = some (.cells zeroX 44 (0, 0))
  row : wr.ownsRow (w.heap.size + 2) 55 4 (.slice A n c) n (tocells t.ops)
  gr : Gr w wr
theorem CpS.next {w : World} {t : TX} {A : Option Addr} {n c : Nat} {a b : World} (h : CpS w t A n c a) (g : Gr a b) : CpS w t A n c b := ⟨gr_obj g h.b, gr_obj g h.r, own_gr h.row g, h.gr.trans g⟩
theorem CpS.again {w : World} {t : TX} {g n c : Nat} {a : World} (h : CpS w t (some ⟨g, 0, none⟩) n c a) {j : Nat} {u : Value} (hj : (tocells t.ops)[j]? = some u) : CpS w t (some ⟨g, 0, none⟩) n c (a.setCell ⟨g, j, none⟩ u) := by
  obtain ⟨h1, h2⟩ := own_again h.row hj
  have hg : w.heap.size + 2 ≤ g := (own_len h.row).2.2.1
  exact ⟨kp_obj h2 h.b (fun e => by injection e with e; omega), kp_obj h2 h.r (fun e => by injection e with e; omega), h1, h.gr.setCell (by show _ ≤ g; omega) _⟩
theorem CpS.slot {w : World} {t : TX} {A : Option Addr} {n c : Nat} {a : World} (h : CpS w t A n c a) : a.cell? ⟨w.heap.size, 11, none⟩ = some (.slice A n c) := by rw [cell_of_block h.b]; rfl

set_option maxRecDepth 100000 in
set_option maxHeartbeats 4000000 in
theorem copy8_any (t : TX) (v : Value) (w : World) (hv : TOV w v t.ops) (hlen : t.ops.length * 48 ≤ 140737488355328) (hsz : ∀ o ∈ t.ops, o.key.size ≤ 281474976710656 ∧ o.elem.size ≤ 281474976710656) :
    Calls Try.prog 54 #[.agg (tcs t v)] w fun e w' => ∃ u, e = .returned (.agg (tcs t u)) ∧ TOO w' w.heap.size u t.ops ∧ Gr w w' := by
  obtain ⟨A0, c0, rfl⟩ := tov_form hv
  obtain ⟨W, hW, hg, h1, h2⟩ : ∃ W, W = (w.alloc (.cells (tcs t (.slice A0 t.ops.length c0)) 44)).alloc (.cells zeroX 44) ∧ Gr w W ∧ W.heap[w.heap.size]? = some (.cells (tcs t (.slice A0 t.ops.length c0)) 44 (0, 0)) ∧ W.heap[w.heap.size + 1]? = some (.cells zeroX 44 (0, 0)) := by
    refine ⟨_, rfl, ((Gr.refl w).alloc _).alloc _, ?_, ?_⟩ <;> (simp only [World.alloc, Array.getElem?_push, Array.size_push]; simp)
  have hs2 : W.heap.size = w.heap.size + 2 := by rw [hW]; simp
  have HG := Lib.hid hg
  have HC := Lib.hid (oclone_any (.slice A0 t.ops.length c0) t.ops W (hv.gr hg) hlen)
  have HS := Lib.hid hs2
  have HSZ := Lib.hid hsz
  have H1 := Lib.hid h1
  have H2 := Lib.hid h2
  have q11 : W.cell? ⟨w.heap.size, 11, none⟩ = some (.slice A0 t.ops.length c0) := by rw [cell_of_block h1]; rfl
  obtain ⟨n, hn⟩ : ∃ n, n = t.ops.length := ⟨_, rfl⟩
  rw [← hn] at q11 HC hW H1 ⊢
  have HN := Lib.hid hn
  clear hg hv h1 h2 hn hs2 hsz
  go_enter Try.func54, Try.ntmps54
  go_upto_region 1 with (fail)
  rw [← hW]
  clear hW
  go_wp2_with fail
  refine HC.out.mono ?_
  rintro e w1 ⟨u1, rfl, ho1, g1⟩
  obtain ⟨A, c, rfl, -, -⟩ := ho1.form
  rw [← HN.out] at ho1 ⊢
  have p11 : w1.cell? ⟨w.heap.size, 11, none⟩ = some (.slice A0 n c0) := by rw [cell_of_block (gr_obj g1 H1.out)]; rfl
  have f11 : w1.frozen? ⟨w.heap.size, 11, none⟩ = false := unfrozen_of_block (gr_obj g1 H1.out) 11
  have HO1 := Lib.hid ho1
  have HG1 := Lib.hid g1
  clear ho1 g1 q11
  go_upto_region 2 with (fail)
  have hcp : CpS w t A n c (w1.setCell ⟨w.heap.size, 11, none⟩ (.slice A n c)) := by
    refine ⟨set_obj (gr_obj HG1.out H1.out) _, set_obj_other (gr_obj HG1.out H2.out) (by omega) _, ?_, (HG.out.trans HG1.out).setCell (Nat.le_refl _) _⟩
    have h := own_set_obj HO1.out (gr_obj HG1.out H1.out) (by decide) (i := 11) (.slice A n c)
    rw [HS.out, ← HN.out] at h
    exact h
  obtain ⟨w2, hw2⟩ : ∃ x, x = w1.setCell ⟨w.heap.size, 11, none⟩ (.slice A n c) := ⟨_, rfl⟩
  rw [← hw2] at hcp ⊢
  have HCP := Lib.hid hcp
  have r11 := hcp.slot
  clear hw2 hcp p11 f11
  go_wp2_with fail
  clear r11
  go_loopw [12] (fun i wr => ∃ k : Nat, k ≤ n ∧ i = .int .i64 k ∧ CpS w t A n c wr) (fun i _ => n - (intOf i).toNat)
  case atStart => exact ⟨0, Nat.zero_le _, rfl, HCP.out⟩
  case round =>
    obtain ⟨k, hk, rfl, hcp⟩ := hrel
    rename World => wr
    by_cases hlt : k < n
    · obtain ⟨g, rfl⟩ := own_blk hcp.row (by omega)
      have hkL : k < t.ops.length := by rw [← HN.out]; exact hlt
      obtain ⟨t0, t1, t2, t3⟩ := tocells_at hkL
      obtain ⟨o, ho⟩ : ∃ o, o = t.ops[k] := ⟨_, rfl⟩
      rw [← ho] at t0 t1 t2 t3
      have c0 := own_cell hcp.row t0
      have c1 := own_cell hcp.row t1
      have c2 := own_cell hcp.row t2
      have c3 := own_cell hcp.row t3
      have HT1 := Lib.hid t1
      have HT2 := Lib.hid t2
      have HCP := Lib.hid hcp
      clear hcp t0 t1 t2 t3
      obtain ⟨W3, hW3, hg3, ht3⟩ : ∃ W3, W3 = wr.alloc (.cells #[.int .i64 o.kind, .string o.key, .string o.elem, .int .i64 o.n] 55) ∧ Gr wr W3 ∧ TCell W3 wr.heap.size 0 o := by
        refine ⟨_, rfl, (Gr.refl wr).alloc _, ?_, ?_, ?_, ?_⟩ <;> (rw [World.cell?_alloc_at _ _ _ _ rfl]; rfl)
      have HC3 := Lib.hid (HCP.out.next hg3)
      have HG3 := Lib.hid hg3
      have HSK := Lib.hid (HSZ.out o (by rw [ho]; exact List.getElem_mem hkL))
      have HT3 := Lib.hid ht3
      have HB3 : Hid (g < wr.heap.size) := Lib.hid (own_len HCP.out.row).2.2.2
      clear hg3 ht3 ho
      go_upto_region 5 with (fail)
      rw [← hW3]
      clear hW3 c0 c1 c2 c3
      refine qTail 8 (fun w' => w'.cell? ⟨w.heap.size, 11, none⟩ = some (.slice (some ⟨g, 0, none⟩) n c) ∧ TCell w' wr.heap.size 0 o ∧ CpS w t (some ⟨g, 0, none⟩) n c w' ∧ Gr wr w') (by kernel_rfl) (by kernel_rfl) ⟨(HC3.out.next (Gr.refl _).drew).slot, HT3.out.gr (Gr.refl _).drew, HC3.out.next (Gr.refl _).drew, HG3.out.drew⟩ ?_
      simp only [List.take_succ_cons, List.take_zero, List.drop_succ_cons, List.drop_zero]
      iterate 5
        refine qTake (by kernel_rfl) ?_
        apply Exists.intro
        refine ⟨fun wq hq => ?_, ?_⟩
        · go_light
          obtain ⟨e11, ⟨e0, e1, e2, e3⟩, -, -⟩ := hq
          go_simp
          try with_reducible rfl
          done
        try simp only [Act.put, List.setIfInBounds_toArray, List.set_cons_zero, List.set_cons_succ]
      refine qCall (by kernel_rfl) ?_
      apply Exists.intro
      refine ⟨?_, ?_⟩
      · apply Exists.intro
        apply Exists.intro
        refine ⟨fun wq => ?_, fun wq hq => ?_⟩
        · go_light
          go_simp
          exact ⟨rfl, rfl⟩
        · exact (clone_any o.key (HSK.out.1) wq).mono fun e w'' ⟨he, hg⟩ => ⟨he, hg.cell hq.1, hq.2.1.gr hg, hq.2.2.1.next hg, hq.2.2.2.trans hg⟩
      try simp only [Act.put, List.setIfInBounds_toArray, List.set_cons_zero, List.set_cons_succ]
      iterate 2
        refine qTake (by kernel_rfl) ?_
        apply Exists.intro
        refine ⟨fun wq hq => ?_, ?_⟩
        · go_light
          obtain ⟨e11, ⟨e0, e1, e2, e3⟩, -, -⟩ := hq
          go_simp
          try with_reducible rfl
          done
        try simp only [Act.put, List.setIfInBounds_toArray, List.set_cons_zero, List.set_cons_succ]
      refine qNil ?_
      intro w4 hC
      have s1 : w4.cell? ⟨g, k * 4 + 1, none⟩ = some (.string o.key) := own_cell hC.2.2.1.row HT1.out
      have f1 : w4.frozen? ⟨g, k * 4 + 1, none⟩ = false := own_free hC.2.2.1.row _
      have hcp5 := hC.2.2.1.again HT1.out
      have hkp5 : Kp (some g) wr (w4.setCell ⟨g, k * 4 + 1, none⟩ (.string o.key)) := (Kp.of_gr hC.2.2.2).set (.inr rfl) _ _
      have ht5 : TCell (w4.setCell ⟨g, k * 4 + 1, none⟩ (.string o.key)) wr.heap.size 0 o := by
        obtain ⟨a0, a1, a2, a3⟩ := hC.2.1
        have := HB3.out
        exact ⟨setCell_there a0 (by omega), setCell_there a1 (by omega), setCell_there a2 (by omega), setCell_there a3 (by omega)⟩
      obtain ⟨w5, hw5⟩ : ∃ x, x = w4.setCell ⟨g, k * 4 + 1, none⟩ (.string o.key) := ⟨_, rfl⟩
      rw [← hw5] at hcp5 hkp5 ht5
      have HC5 := Lib.hid hcp5
      have HT5 := Lib.hid ht5
      clear hC hcp5 ht5 hkp5
      go_upto_region 6 with (fail)
      rw [← hw5]
      clear hw5 s1 f1
      refine qTail 8 (fun w' => w'.cell? ⟨w.heap.size, 11, none⟩ = some (.slice (some ⟨g, 0, none⟩) n c) ∧ TCell w' wr.heap.size 0 o ∧ CpS w t (some ⟨g, 0, none⟩) n c w') (by kernel_rfl) (by kernel_rfl) ⟨(HC5.out.next (Gr.refl _).drew).slot, HT5.out.gr (Gr.refl _).drew, HC5.out.next (Gr.refl _).drew⟩ ?_
      simp only [List.take_succ_cons, List.take_zero, List.drop_succ_cons, List.drop_zero]
      iterate 5
        refine qTake (by kernel_rfl) ?_
        apply Exists.intro
        refine ⟨fun wq hq => ?_, ?_⟩
        · go_light
          obtain ⟨e11, ⟨e0, e1, e2, e3⟩, -⟩ := hq
          go_simp
          try with_reducible rfl
          done
        try simp only [Act.put, List.setIfInBounds_toArray, List.set_cons_zero, List.set_cons_succ]
      refine qCall (by kernel_rfl) ?_
      apply Exists.intro
      refine ⟨?_, ?_⟩
      · apply Exists.intro
        apply Exists.intro
        refine ⟨fun wq => ?_, fun wq hq => ?_⟩
        · go_light
          go_simp
          exact ⟨rfl, rfl⟩
        · exact (clone_any o.elem (HSK.out.2) wq).mono fun e w'' ⟨he, hg⟩ => ⟨he, hg.cell hq.1, hq.2.1.gr hg, hq.2.2.next hg⟩
      try simp only [Act.put, List.setIfInBounds_toArray, List.set_cons_zero, List.set_cons_succ]
      iterate 2
        refine qTake (by kernel_rfl) ?_
        apply Exists.intro
        refine ⟨fun wq hq => ?_, ?_⟩
        · go_light
          obtain ⟨e11, ⟨e0, e1, e2, e3⟩, -⟩ := hq
          go_simp
          try with_reducible rfl
          done
        try simp only [Act.put, List.setIfInBounds_toArray, List.set_cons_zero, List.set_cons_succ]
      refine qNil ?_
      intro w6 hC
      have s2 : w6.cell? ⟨g, k * 4 + 2, none⟩ = some (.string o.elem) := own_cell hC.2.2.row HT2.out
      have f2 : w6.frozen? ⟨g, k * 4 + 2, none⟩ = false := own_free hC.2.2.row _
      have HC7 := Lib.hid (hC.2.2.again HT2.out)
      clear hC
      go_wp2_with fail
      go_roundw
      case measure => simp [intOf]; omega
      case rel => exact ⟨k + 1, by omega, by go_num, HC7.out⟩
    · have h1 := hcp.b
      have h2 := hcp.r
      have hg5 := hcp.gr
      have ho5 := hcp.row
      have p0 : wr.cell? ⟨w.heap.size, 0, none⟩ = some (.int .i64 t.origin) := by rw [cell_of_block h1]; rfl
      have p1 : wr.cell? ⟨w.heap.size, 1, none⟩ = some (.int .u64 (t.seq : Int)) := by rw [cell_of_block h1]; rfl
      have p2 : wr.cell? ⟨w.heap.size, 2, none⟩ = some (.int .u64 (t.stamp : Int)) := by rw [cell_of_block h1]; rfl
      have p3 : wr.cell? ⟨w.heap.size, 3, none⟩ = some (.int .u64 (t.deps 0 : Int)) := by rw [cell_of_block h1]; rfl
      have p4 : wr.cell? ⟨w.heap.size, 4, none⟩ = some (.int .u64 (t.deps 1 : Int)) := by rw [cell_of_block h1]; rfl
      have p5 : wr.cell? ⟨w.heap.size, 5, none⟩ = some (.int .u64 (t.deps 2 : Int)) := by rw [cell_of_block h1]; rfl
      have p6 : wr.cell? ⟨w.heap.size, 6, none⟩ = some (.int .u64 (t.deps 3 : Int)) := by rw [cell_of_block h1]; rfl
      have p7 : wr.cell? ⟨w.heap.size, 7, none⟩ = some (.int .u64 (t.deps 4 : Int)) := by rw [cell_of_block h1]; rfl
      have p8 : wr.cell? ⟨w.heap.size, 8, none⟩ = some (.int .u64 (t.deps 5 : Int)) := by rw [cell_of_block h1]; rfl
      have p9 : wr.cell? ⟨w.heap.size, 9, none⟩ = some (.int .u64 (t.deps 6 : Int)) := by rw [cell_of_block h1]; rfl
      have p10 : wr.cell? ⟨w.heap.size, 10, none⟩ = some (.int .u64 (t.deps 7 : Int)) := by rw [cell_of_block h1]; rfl
      have p11 : wr.cell? ⟨w.heap.size, 11, none⟩ = some (.slice A n c) := by rw [cell_of_block h1]; rfl
      have z0 : wr.cell? ⟨w.heap.size + 1, 0, none⟩ = some (.int .i64 0) := by rw [cell_of_block h2]; rfl
      have z1 : wr.cell? ⟨w.heap.size + 1, 1, none⟩ = some (.int .u64 0) := by rw [cell_of_block h2]; rfl
      have z2 : wr.cell? ⟨w.heap.size + 1, 2, none⟩ = some (.int .u64 0) := by rw [cell_of_block h2]; rfl
      have z3 : wr.cell? ⟨w.heap.size + 1, 3, none⟩ = some (.int .u64 0) := by rw [cell_of_block h2]; rfl
      have z4 : wr.cell? ⟨w.heap.size + 1, 4, none⟩ = some (.int .u64 0) := by rw [cell_of_block h2]; rfl
      have z5 : wr.cell? ⟨w.heap.size + 1, 5, none⟩ = some (.int .u64 0) := by rw [cell_of_block h2]; rfl
      have z6 : wr.cell? ⟨w.heap.size + 1, 6, none⟩ = some (.int .u64 0) := by rw [cell_of_block h2]; rfl
      have z7 : wr.cell? ⟨w.heap.size + 1, 7, none⟩ = some (.int .u64 0) := by rw [cell_of_block h2]; rfl
      have z8 : wr.cell? ⟨w.heap.size + 1, 8, none⟩ = some (.int .u64 0) := by rw [cell_of_block h2]; rfl
      have z9 : wr.cell? ⟨w.heap.size + 1, 9, none⟩ = some (.int .u64 0) := by rw [cell_of_block h2]; rfl
      have z10 : wr.cell? ⟨w.heap.size + 1, 10, none⟩ = some (.int .u64 0) := by rw [cell_of_block h2]; rfl
      have z11 : wr.cell? ⟨w.heap.size + 1, 11, none⟩ = some (.slice none 0 0) := by rw [cell_of_block h2]; rfl
      have k0 := unfrozen_of_block h2 0
      have k1 := unfrozen_of_block h2 1
      have k2 := unfrozen_of_block h2 2
      have k3 := unfrozen_of_block h2 3
      have k4 := unfrozen_of_block h2 4
      have k5 := unfrozen_of_block h2 5
      have k6 := unfrozen_of_block h2 6
      have k7 := unfrozen_of_block h2 7
      have k8 := unfrozen_of_block h2 8
      have k9 := unfrozen_of_block h2 9
      have k10 := unfrozen_of_block h2 10
      have k11 := unfrozen_of_block h2 11
      have HB2 := Lib.hid h2
      have HG5 := Lib.hid hg5
      have HO5 := Lib.hid ho5
      clear h1 h2 hg5 ho5 hcp
      go_wp2_with fail
      obtain ⟨e2, howns, hgrs⟩ := stored12_facts (.int .i64 t.origin) (.int .u64 (t.seq : Int)) (.int .u64 (t.stamp : Int)) (.int .u64 (t.deps 0 : Int)) (.int .u64 (t.deps 1 : Int)) (.int .u64 (t.deps 2 : Int)) (.int .u64 (t.deps 3 : Int)) (.int .u64 (t.deps 4 : Int)) (.int .u64 (t.deps 5 : Int)) (.int .u64 (t.deps 6 : Int)) (.int .u64 (t.deps 7 : Int)) (.slice A n c) HB2.out
      have hown5 := howns HO5.out (by decide)
      have hgr5 := hgrs HG5.out (Nat.le_succ _)
      clear howns hgrs p0 p1 p2 p3 p4 p5 p6 p7 p8 p9 p10 p11 z0 z1 z2 z3 z4 z5 z6 z7 z8 z9 z10 z11 k0 k1 k2 k3 k4 k5 k6 k7 k8 k9 k10 k11
      obtain ⟨WF, hWF⟩ : ∃ x, x = stored12 wr (w.heap.size + 1) (.int .i64 t.origin) (.int .u64 (t.seq : Int)) (.int .u64 (t.stamp : Int)) (.int .u64 (t.deps 0 : Int)) (.int .u64 (t.deps 1 : Int)) (.int .u64 (t.deps 2 : Int)) (.int .u64 (t.deps 3 : Int)) (.int .u64 (t.deps 4 : Int)) (.int .u64 (t.deps 5 : Int)) (.int .u64 (t.deps 6 : Int)) (.int .u64 (t.deps 7 : Int)) (.slice A n c) := ⟨_, rfl⟩
      rw [← hWF] at e2 hown5 hgr5
      unfold stored12 at hWF
      rw [← hWF]
      have z0 : WF.cell? ⟨w.heap.size + 1, 0, none⟩ = some (.int .i64 t.origin) := by rw [cell_of_block e2]; rfl
      have z1 : WF.cell? ⟨w.heap.size + 1, 1, none⟩ = some (.int .u64 (t.seq : Int)) := by rw [cell_of_block e2]; rfl
      have z2 : WF.cell? ⟨w.heap.size + 1, 2, none⟩ = some (.int .u64 (t.stamp : Int)) := by rw [cell_of_block e2]; rfl
      have z3 : WF.cell? ⟨w.heap.size + 1, 3, none⟩ = some (.int .u64 (t.deps 0 : Int)) := by rw [cell_of_block e2]; rfl
      have z4 : WF.cell? ⟨w.heap.size + 1, 4, none⟩ = some (.int .u64 (t.deps 1 : Int)) := by rw [cell_of_block e2]; rfl
      have z5 : WF.cell? ⟨w.heap.size + 1, 5, none⟩ = some (.int .u64 (t.deps 2 : Int)) := by rw [cell_of_block e2]; rfl
      have z6 : WF.cell? ⟨w.heap.size + 1, 6, none⟩ = some (.int .u64 (t.deps 3 : Int)) := by rw [cell_of_block e2]; rfl
      have z7 : WF.cell? ⟨w.heap.size + 1, 7, none⟩ = some (.int .u64 (t.deps 4 : Int)) := by rw [cell_of_block e2]; rfl
      have z8 : WF.cell? ⟨w.heap.size + 1, 8, none⟩ = some (.int .u64 (t.deps 5 : Int)) := by rw [cell_of_block e2]; rfl
      have z9 : WF.cell? ⟨w.heap.size + 1, 9, none⟩ = some (.int .u64 (t.deps 6 : Int)) := by rw [cell_of_block e2]; rfl
      have z10 : WF.cell? ⟨w.heap.size + 1, 10, none⟩ = some (.int .u64 (t.deps 7 : Int)) := by rw [cell_of_block e2]; rfl
      have z11 : WF.cell? ⟨w.heap.size + 1, 11, none⟩ = some (.slice A n c) := by rw [cell_of_block e2]; rfl
      clear e2 hWF
      refine bodyPost_ret (v := .agg (tcs t (.slice A n c))) (by simp [results, Try.results54, go_sem, *]) rfl ?_
      refine ⟨_, rfl, ?_, hgr5⟩
      unfold TOO
      rw [← HN.out]
      exact own_le hown5 (by omega)
end Go.Proofs.Ytlgljanofppleaa
