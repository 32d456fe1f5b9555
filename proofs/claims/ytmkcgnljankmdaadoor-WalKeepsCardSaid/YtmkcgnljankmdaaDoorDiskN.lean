/- Walks: the operations in order, the document's. -/
import Derived.Test.YtmkcgnljankmdaaDoorDiskM
import Derived.Deep.RegionHeld3
namespace Go.Proofs.YtmkcgnljankmdaaDoor
open Go.RowKit

theorem rone_any (v : Value) (L : List F) (o : O) (B : Nat) (w : World) (hv : FO w B v L) (hB : B ≤ w.heap.size) (hf : Fit L) (ho : FitO o) (hlen : L.length * 48 ≤ 140737488355328) :
    Calls Tryd.prog 31 #[.agg #[v], .agg #[.int .i64 o.kind, .string o.name, .string o.bytes, .int .i64 o.at_]] w fun e w' => RetOne L o B v w e w' := by
  obtain ⟨kd, nm, bts, at_⟩ := o
  show Calls Tryd.prog 31 #[.agg #[v], .agg #[.int .i64 kd, .string nm, .string bts, .int .i64 at_]] w fun e w' => RetOne L ⟨kd, nm, bts, at_⟩ B v w e w'
  by_cases h1 : kd < 1
  · exact one_low v L kd nm bts at_ B w hv hB hf ho h1
  by_cases h4 : 4 < kd
  · exact one_high v L kd nm bts at_ B w hv hB hf ho h4
  rcases hnm : nameOk nm with _ | _
  · exact one_badname v L kd nm bts at_ B w hv hB hf ho (by omega) (by omega) hnm
  by_cases hfd : findF L nm < L.length
  · by_cases e1 : kd = 1
    · subst e1
      by_cases hsz : 1048576 < L[findF L nm].size + bts.size
      · exact one_longold v L nm bts at_ B w hv hB hf ho hnm _ rfl hfd hsz
      · exact one_grow v L nm bts at_ B w hv hB hf ho hnm _ rfl hfd hsz
    by_cases e2 : kd = 2
    · subst e2
      exact one_sync v L nm bts at_ B w hv hB hf ho hnm _ rfl hfd
    by_cases e3 : kd = 3
    · subst e3
      by_cases ha : at_ < 0
      · exact one_cutlow v L nm bts at_ B w hv hB hf ho hnm _ rfl hfd ha
      by_cases hs : (L[findF L nm].size : Int) < at_
      · exact one_cuthigh v L nm bts at_ B w hv hB hf ho hnm _ rfl hfd ha hs
      obtain ⟨k, rfl⟩ := Int.eq_ofNat_of_zero_le (show 0 ≤ at_ by omega)
      exact one_cut v L nm bts k B w hv hB hf ho hnm _ rfl hfd (by omega)
    obtain rfl : kd = 4 := by omega
    exact one_drop v L nm bts at_ B w hv hB hf ho hnm _ rfl hfd hlen
  · by_cases e1 : kd = 1
    · subst e1
      by_cases h64 : 64 ≤ L.length
      · exact one_full v L nm bts at_ B w hv hB hf ho hnm hfd h64
      by_cases hsz : 1048576 < bts.size
      · exact one_longnew v L nm bts at_ B w hv hB hf ho hnm hfd h64 hsz
      · exact one_new v L nm bts at_ B w hv hB hf ho hnm hfd h64 hsz _ rfl
    · exact one_nofile v L kd nm bts at_ B w hv hB hf ho (by omega) (by omega) hnm hfd

/-- The slice value v reads as the operations. -/
def OCell (w : World) (b off : Nat) (o : O) : Prop :=
  w.cell? ⟨b, off, none⟩ = some (.int .i64 o.kind) ∧ w.cell? ⟨b, off + 1, none⟩ = some (.string o.name) ∧ w.cell? ⟨b, off + 2, none⟩ = some (.string o.bytes) ∧ w.cell? ⟨b, off + 3, none⟩ = some (.int .i64 o.at_)
def OV (w : World) (v : Value) (ops : List O) : Prop :=
  ∃ A c, v = .slice A ops.length c ∧ ops.length ≤ c ∧ (c ≤ maxLen ∧ (A = Option.none → c = 0)) ∧ ∀ j (hj : j < ops.length), ∃ b off, A = some ⟨b, off, none⟩ ∧ OCell w b (off + j * 4) ops[j]
theorem OV.gr {w w' : World} {v : Value} {ops : List O} (h : OV w v ops) (g : Gr w w') : OV w' v ops := by
  obtain ⟨A, c, hv, h1, h2, h3⟩ := h
  refine ⟨A, c, hv, h1, h2, fun j hj => ?_⟩
  obtain ⟨b, off, ha, hc⟩ := h3 j hj
  exact ⟨b, off, ha, g.cell hc.1, g.cell hc.2.1, g.cell hc.2.2.1, g.cell hc.2.2.2⟩
/-- What the operations in order answer. -/
def RetDo (L : List F) (ops : List O) (w : World) (e : Ending) (w' : World) : Prop :=
  ∃ v, e = .returned (.tuple #[.agg #[v], .int .i64 ((run L ops).2.1 : Int), .int .i64 ((run L ops).2.2 : Int)]) ∧ FO w' w.heap.size v (run L ops).1 ∧ Gr w w'

structure RDoInv (L : List F) (ops : List O) (bx k : Nat) (v : Value) (Lk : List F) (w wr : World) : Prop where
  hk : k ≤ ops.length
  hrun : run L ops = bump k (run Lk (ops.drop k))
  own : FO wr (w.heap.size + 1 + 1) v Lk
  fit : Fit Lk
  len : Lk.length ≤ max L.length 64
  gr : Gr w wr
  lo : w.heap.size + 1 < bx
  hi : bx < wr.heap.size
  ne : ∀ g, v.ownBlock = some g → g ≠ bx
  cb : wr.cell? ⟨bx, 0, none⟩ = some v
  fb : wr.frozen? ⟨bx, 0, none⟩ = false
  cr : wr.cell? ⟨w.heap.size + 1, 0, none⟩ = some (.slice none 0 0)
  fr : wr.frozen? ⟨w.heap.size + 1, 0, none⟩ = false
def RDoRel (L : List F) (ops : List O) (bx : Nat) (w : World) (i : Value) (wr : World) : Prop :=
  ∃ (k : Nat) (v : Value) (Lk : List F), i = .int .i64 (k : Int) ∧ RDoInv L ops bx k v Lk w wr
/-- What holds while one operation is done. -/
structure RDoT (bx h : Nat) (v : Value) (w w' : World) : Prop where
  gr : Gr w w'
  lo : w.heap.size + 1 < bx
  hi : bx < w'.heap.size
  sz : h ≤ w'.heap.size
  fb : w'.frozen? ⟨bx, 0, none⟩ = false
  cr : w'.cell? ⟨w.heap.size + 1, 0, none⟩ = some (.slice none 0 0)
  fr : w'.frozen? ⟨w.heap.size + 1, 0, none⟩ = false
abbrev RDoS (bx h : Nat) (v : Value) (b off k : Nat) (o : O) (w w' : World) : Prop :=
  w'.cell? ⟨bx, 0, none⟩ = some v ∧ w'.cell? ⟨b, off + k * 4, none⟩ = some (.int .i64 o.kind) ∧ w'.cell? ⟨b, off + k * 4 + 1, none⟩ = some (.string o.name) ∧ w'.cell? ⟨b, off + k * 4 + 2, none⟩ = some (.string o.bytes) ∧ w'.cell? ⟨b, off + k * 4 + 3, none⟩ = some (.int .i64 o.at_) ∧ RDoT bx h v w w'
theorem RDoT.grow {bx h : Nat} {v : Value} {w w1 w2 : World} (t : RDoT bx h v w w1) (g : Gr w1 w2) : RDoT bx h v w w2 :=
  ⟨t.gr.trans g, t.lo, Nat.lt_of_lt_of_le t.hi g.size, Nat.le_trans t.sz g.size, g.frozen t.hi t.fb, g.cell t.cr, g.frozen (show w.heap.size + 1 < _ by have := t.lo; have := t.hi; omega) t.fr⟩
theorem RDoS.gr {bx h b off k : Nat} {v : Value} {o : O} {w w1 w2 : World} (s : RDoS bx h v b off k o w w1) (g : Gr w1 w2) : RDoS bx h v b off k o w w2 :=
  ⟨g.cell s.1, g.cell s.2.1, g.cell s.2.2.1, g.cell s.2.2.2.1, g.cell s.2.2.2.2.1, s.2.2.2.2.2.grow g⟩
theorem RDoS.kp {bx h b off k : Nat} {v : Value} {o : O} {w w1 w2 : World} (s : RDoS bx h v b off k o w w1) (g : Kp v.ownBlock w1 w2) (hb : b < w.heap.size) (hlo : ∀ g, v.ownBlock = some g → w.heap.size + 1 < g) (hne : ∀ g, v.ownBlock = some g → g ≠ bx) : RDoS bx h v b off k o w w2 := by
  obtain ⟨h0, h1, h2, h3, h4, t⟩ := s
  have n1 : some b ≠ v.ownBlock := fun e => by have := hlo b e.symm; omega
  have n2 : some bx ≠ v.ownBlock := fun e => hne bx e.symm rfl
  have n3 : some (w.heap.size + 1) ≠ v.ownBlock := fun e => by have := hlo _ e.symm; omega
  refine ⟨g.cell h0 n2, g.cell h1 n1, g.cell h2 n1, g.cell h3 n1, g.cell h4 n1, ?_⟩
  exact ⟨Below.trans t.gr (g.below (by have := t.lo; have := t.hi; omega) (fun g' hg => by have := hlo g' hg; omega)), t.lo, Nat.lt_of_lt_of_le t.hi g.size, Nat.le_trans t.sz g.size,
    (g.frozen t.hi n2).trans t.fb, g.cell t.cr n3, (g.frozen (show w.heap.size + 1 < _ by have := t.lo; have := t.hi; omega) n3).trans t.fr⟩

theorem RDoS.setbox {bx h b off k : Nat} {v : Value} {o : O} {w w1 : World} {u : Value} (s : RDoS bx h v b off k o w w1) (hb : b < w.heap.size) (hbx : bx < h) : RDoS bx h v b off k o w (w1.setCell ⟨h, 0, none⟩ u) := by
  obtain ⟨h0, h1, h2, h3, h4, t⟩ := s
  have hlo := t.lo
  refine ⟨setCell_there h0 (by omega), setCell_there h1 (by omega), setCell_there h2 (by omega), setCell_there h3 (by omega), setCell_there h4 (by omega), ?_⟩
  exact ⟨Below.setCell t.gr (show w.heap.size ≤ h by omega) _, hlo, by have := t.hi; simpa [World.setCell] using this, by have := t.sz; simpa [World.setCell] using this, by rw [World.frozen?_setCell]; exact t.fb, setCell_there t.cr (by omega), by rw [World.frozen?_setCell]; exact t.fr⟩
theorem rdo_ok {L : List F} {ops : List O} {bx k h b off : Nat} {v v4 : Value} {Lk : List F} {o : O} {w wr W5 : World} (inv : RDoInv L ops bx k v Lk w wr) (hk : k < ops.length) (ho : o = ops[k]) (he : (step Lk o).1 = 0)
    (hS : RDoS bx h v b off k o w W5) (hF : FO W5 (w.heap.size + 1 + 1) v4 (step Lk o).2) (hne : ∀ g, v4.ownBlock = some g → g ≠ bx) : RDoInv L ops bx (k + 1) v4 (step Lk o).2 w (W5.setCell ⟨bx, 0, none⟩ v4) := by
  obtain ⟨h0, h1, h2, h3, h4, t⟩ := hS
  have hd : ops.drop k = o :: ops.drop (k + 1) := by rw [ho]; exact List.drop_eq_getElem_cons hk
  have hlo := t.lo
  refine ⟨by omega, ?_, hF.set hne 0 _, step_fit inv.fit, ?_, Below.setCell t.gr (show w.heap.size ≤ bx by omega) _, hlo, by have := t.hi; simpa [World.setCell] using this, hne, setCell_here h0, by rw [World.frozen?_setCell]; exact t.fb, setCell_there t.cr (by omega), by rw [World.frozen?_setCell]; exact t.fr⟩
  · rw [inv.hrun, hd, run_ok he, bump_bump, Nat.add_comm 1 k]
  · have := step_len (L := Lk) (o := o)
    have := inv.len
    omega
theorem rdo_no {L : List F} {ops : List O} {bx k : Nat} {v : Value} {Lk : List F} {o : O} {w wr : World} (inv : RDoInv L ops bx k v Lk w wr) (hk : k < ops.length) (ho : o = ops[k]) (he : (step Lk o).1 ≠ 0) : run L ops = (Lk, k, (step Lk o).1) := by
  have hd : ops.drop k = o :: ops.drop (k + 1) := by rw [ho]; exact List.drop_eq_getElem_cons hk
  rw [inv.hrun, hd, run_no he]
  simp [bump]
theorem rdo_end {L : List F} {ops : List O} {bx k : Nat} {v : Value} {Lk : List F} {w wr : World} (inv : RDoInv L ops bx k v Lk w wr) (hk : ¬ k < ops.length) : run L ops = (Lk, ops.length, 0) := by
  have := inv.hk
  have e : k = ops.length := by omega
  rw [inv.hrun, List.drop_of_length_le (by omega), e]
  simp [run, bump]
theorem RDoInv.drew {L : List F} {ops : List O} {bx k : Nat} {v : Value} {Lk : List F} {w wr : World} (h : RDoInv L ops bx k v Lk w wr) : RDoInv L ops bx k v Lk w wr.drew :=
  ⟨h.hk, h.hrun, h.own.gr (Gr.refl _).drew, h.fit, h.len, h.gr.drew, h.lo, h.hi, h.ne, h.cb, h.fb, h.cr, h.fr⟩
theorem boxKept {r : Option Nat} {W w4 : World} {u : Value} {t : TypeId} (h : Kp r (W.alloc (.cells #[u] t)).drew w4) (H : Nat) (hH : W.heap.size = H) (hr : some H ≠ r) : w4.cell? ⟨H, 0, none⟩ = some u ∧ w4.frozen? ⟨H, 0, none⟩ = false := by
  subst hH
  exact ⟨h.cell (p := ⟨W.heap.size, 0, none⟩) (show (W.alloc (.cells #[u] t)).cell? _ = _ by simp) hr, (h.frozen (p := ⟨W.heap.size, 0, none⟩) (show W.heap.size < (W.alloc (.cells #[u] t)).heap.size by simp) hr).trans (show (W.alloc (.cells #[u] t)).frozen? _ = _ by simp)⟩
theorem name_len (L : List F) : ∃ n, L.length = n := ⟨_, rfl⟩
set_option maxRecDepth 100000 in
set_option maxHeartbeats 4000000 in
theorem rdo_any (v vo : Value) (L : List F) (ops : List O) (w : World) (hv : FV w v L) (ho : OV w vo ops) (hf : Fit L) (hfo : ∀ o ∈ ops, FitO o) (hlen : L.length * 48 ≤ 140737488355328) :
    Calls Tryd.prog 16 #[.agg #[v], vo] w fun e w' => RetDo L ops w e w' := by
  obtain ⟨A, c, hva, _⟩ := id hv
  obtain ⟨Ao, co, hvo, ol, ⟨oc, _⟩, o3⟩ := id ho
  have HV := Lib.hid hv
  have HOO := Lib.hid o3
  have HFO := Lib.hid hfo
  have hoc63 : co ≤ 9223372036854775807 := oc
  subst hva hvo
  have HC := Lib.hid (fun (w1 : World) (g : Gr w w1) => rcopy_any _ L w1 (HV.out.gr g) hlen)
  clear hv ho o3 hfo oc
  obtain ⟨n, hn⟩ : ∃ n, n = L.length := ⟨_, rfl⟩
  obtain ⟨m, hm⟩ : ∃ n, n = ops.length := ⟨_, rfl⟩
  have HN := Lib.hid hn
  have HM := Lib.hid hm
  rw [← hn] at HC HV
  rw [← hn, ← hm]
  rw [← hm] at ol
  clear hn hm
  go_enter Tryd.func16, Tryd.ntmps16
  go_wp2_with fail
  refine (HC.out _ ((gr_box w _).alloc _)).mono ?_
  rintro e w1 ⟨v1, rfl, hown, g1⟩
  have G1 : Gr w w1 := ((gr_box w _).alloc _).trans g1
  have c1 : w1.cell? ⟨w.heap.size + 1, 0, none⟩ = some (.slice none 0 0) := g1.cell (by simp)
  have f1 : w1.frozen? ⟨w.heap.size + 1, 0, none⟩ = false := g1.frozen (by simp) (by simp)
  have hB : w.heap.size + 1 < w1.heap.size := by have := g1.size; simp at this; omega
  obtain ⟨A1, k1, hv1, hk1, hk2⟩ := hown.form
  rw [← HN.out] at hv1 hk1
  subst hv1
  have HO : Hid (FO w1 (w.heap.size + 1 + 1) (.slice A1 n k1) L) := Lib.hid (hown.le (by simp))
  clear hown g1
  obtain ⟨bx, hbx⟩ : ∃ b, b = w1.heap.size := ⟨_, rfl⟩
  have HST : Hid (RDoRel L ops bx w (.int .i64 0) (w1.alloc (.cells #[.slice A1 n k1] 24))) := by
    refine ⟨0, _, L, rfl, Nat.zero_le _, by rw [List.drop_zero, bump_zero], HO.out.gr (gr_box w1 _), hf, Nat.le_max_left _ _, G1.alloc _, by rw [hbx]; exact hB, by rw [hbx]; simp, fun g hg => ?_, by rw [hbx]; simp, by rw [hbx]; simp, (gr_box w1 _).cell c1, (gr_box w1 _).frozen hB f1⟩
    have := (World.ownsRow.lt HO.out g hg).2
    omega
  have HBX := Lib.hid hbx
  clear c1 f1 G1 hbx hf HO
  go_wp2_with fail
  rw [← HBX.out]
  go_loopw [8] (fun i wr => RDoRel L ops bx w i wr) (fun i _ => m - (intOf i).toNat)
  case atStart => exact HST.out
  case round =>
    obtain ⟨k, v, Lk, rfl, inv⟩ := hrel
    have HI := Lib.hid inv
    have cb := inv.cb
    have hkm : k ≤ m := by rw [HM.out]; exact inv.hk
    clear inv HST
    by_cases hlt : k < m
    · obtain ⟨b, off, rfl, hc0⟩ := HOO.out k (by rw [← HM.out]; exact hlt)
      obtain ⟨o, hoe⟩ : ∃ o, o = ops[k]'(by rw [← HM.out]; exact hlt) := ⟨_, rfl⟩
      rw [← hoe] at hc0
      have hfo : FitO o := HFO.out o (by rw [hoe]; exact List.getElem_mem _)
      have hbw : b < w.heap.size := World.block_lt_of_cell? w ⟨b, off + k * 4, none⟩ hc0.1
      have HOE := Lib.hid hoe
      obtain ⟨h0, h1, h2, h3⟩ := hc0
      have hS : RDoS bx wr.heap.size v b off k o w wr := ⟨HI.out.cb, HI.out.gr.cell h0, HI.out.gr.cell h1, HI.out.gr.cell h2, HI.out.gr.cell h3, HI.out.gr, HI.out.lo, HI.out.hi, Nat.le_refl _, HI.out.fb, HI.out.cr, HI.out.fr⟩
      have HS := Lib.hid hS
      have hlo : ∀ g, v.ownBlock = some g → w.heap.size + 1 < g := fun g hg => by have := (World.ownsRow.lt HI.out.own g hg).1; omega
      have HLO := Lib.hid hlo
      have HONE := Lib.hid (fun w2 (q : Gr wr w2) => rone_any v Lk o (w.heap.size + 1 + 1) w2 (HI.out.own.gr q) (by have := q.size; have := HI.out.lo; have := HI.out.hi; omega) HI.out.fit hfo (by have := HI.out.len; omega))
      clear h0 h1 h2 h3 hfo hoe hS hlo
      obtain ⟨Av, nv, cv, hvv, -⟩ : ∃ A n c, v = .slice A n c ∧ True := by obtain ⟨A, c, h, _⟩ := HI.out.own.form; exact ⟨A, _, c, h, trivial⟩
      subst hvv
      have HN9 : Hid (some wr.heap.size ≠ (Value.slice Av nv cv).ownBlock) := fun e => by have := (World.ownsRow.lt HI.out.own _ e.symm).2; omega
      go_wp2_with fail
      go_region_held3 (fun w' => RDoS bx wr.heap.size (.slice Av nv cv) b off k o w w')
        (first
          | (with_reducible exact HS.out)
          | (with_reducible exact RDoS.gr HS.out (Gr.refl _).drew)
          | (with_reducible exact RDoS.gr HS.out ((Gr.refl _).alloc _).drew)
          | (with_reducible exact RDoS.kp (RDoS.gr HS.out (Gr.refl _).drew) hkp hbw HLO.out HI.out.ne)
          | (with_reducible exact RDoS.kp (RDoS.gr HS.out ((Gr.refl _).alloc _).drew) hkp hbw HLO.out HI.out.ne)
          | (with_reducible exact RDoS.gr (RDoS.kp (RDoS.gr HS.out (Gr.refl _).drew) hkp hbw HLO.out HI.out.ne) ((Gr.refl _).alloc _))
          | (with_reducible exact RDoS.setbox (RDoS.kp (RDoS.gr HS.out ((Gr.refl _).alloc _).drew) hkp hbw HLO.out HI.out.ne) hbw HI.out.hi))
        (first
          | (go_at_call 31; (with_reducible refine (HONE.out _ ?_).mono ?_); (first | exact (Gr.refl _).drew | exact ((Gr.refl _).alloc _).drew); rintro e w4 ⟨v4, rfl, hown4, hkp, hsame, hat4⟩; obtain ⟨A4, c4, hv4, -, -⟩ := hown4.form; obtain ⟨n4, hn4⟩ := name_len (step Lk o).2; rw [hn4] at hv4; subst hv4; (try obtain ⟨hb9, hf9⟩ := boxKept hkp wr.heap.size rfl HN9.out)))
      all_goals
        have hne4 : Hid (∀ g, (Value.slice A4 n4 c4).ownBlock = some g → g ≠ bx) := fun g hg => by
          rcases hat4 g hg with h | h
          · exact HI.out.ne g h
          · have h1 := HI.out.hi
            first
              | (have h2 : wr.heap.size ≤ g := h
                 omega)
              | (have h2 : (wr.alloc (.cells #[.slice none 0 0] 24)).heap.size ≤ g := h
                 simp at h2
                 omega)
        have HSA := Lib.hid hsame
        have hat4s := Lib.hid hat4
        clear hat4 hsame
      · have hS5 := Lib.hid ‹RDoS bx wr.heap.size (.slice Av nv cv) b off k o w (World.alloc _ _)›
        have hF5 : Hid (FO (w4.alloc (.cells #[.slice A4 n4 c4] 24)) (w.heap.size + 1 + 1) (.slice A4 n4 c4) (step Lk o).2) := Lib.hid (hown4.gr (gr_box w4 _))
        have x9 : (w4.alloc (.cells #[.slice A4 n4 c4] 24)).cell? ⟨w4.heap.size, 0, none⟩ = some (.slice A4 n4 c4) := by simp
        obtain ⟨W5, hW5⟩ : ∃ W5, W5 = w4.alloc (.cells #[.slice A4 n4 c4] 24) := ⟨_, rfl⟩
        rw [← hW5] at hS5 hF5 x9 ⊢
        clear hW5 hown4 hkp
        have hkl : k < ops.length := by rw [← HM.out]; exact hlt
        obtain ⟨y0, -, -, -, -, yt⟩ := hS5.out
        have yb := yt.fb
        have yc := yt.cr
        have yf := yt.fr
        by_cases he : (step Lk o).1 = 0
        · have ht : (((step Lk o).1 : Int) != 0) = false := by rw [he]; rfl
          have HQ := Lib.hid (rdo_ok HI.out hkl HOE.out he hS5.out hF5.out hne4.out)
          clear he yt
          go_wp2
          go_roundw
          case rel => exact ⟨k + 1, _, _, by go_num, HQ.out⟩
          case measure => simp [intOf]; omega
        · have ht : (((step Lk o).1 : Int) != 0) = true := by rw [bne_iff_ne]; omega
          have hvv := HSA.out he
          have hrun := rdo_no HI.out hkl HOE.out he
          have hL4 : (step Lk o).2 = Lk := step_refused he
          have HGR := Lib.hid yt.gr
          have HLOW := Lib.hid yt.lo
          rw [hL4, hvv] at hF5
          have HR := Lib.hid hrun
          clear he hrun hL4 hvv yt
          go_wp2
          refine bodyPost_ret (v := .tuple #[.agg #[.slice Av nv cv], .int .i64 (k : Int), .int .i64 ((step Lk o).1 : Int)]) (by simp [results, Tryd.results16, go_sem, yc]) rfl ⟨_, by rw [HR.out], ?_, ?_⟩
          · rw [HR.out]
            exact FO.le (ownsRow_setCell_below hF5.out (a := ⟨w.heap.size + 1, 0, none⟩) (by show w.heap.size + 1 < _; omega) _) (by omega)
          · exact Below.setCell HGR.out (show w.heap.size ≤ w.heap.size + 1 by omega) _
      · have hS5 := Lib.hid ‹RDoS bx wr.heap.size (.slice Av nv cv) b off k o w (World.setCell _ _ _)›
        have hF5 : Hid (FO (w4.setCell ⟨wr.heap.size, 0, none⟩ (.slice A4 n4 c4)) (w.heap.size + 1 + 1) (.slice A4 n4 c4) (step Lk o).2) := Lib.hid (hown4.set (fun g hg e => by
          rcases hat4s.out g hg with h | h
          · exact HN9.out (by rw [h, e])
          · have h2 : (wr.alloc (.cells #[.slice none 0 0] 24)).heap.size ≤ g := h
            simp at h2
            omega) 0 _)
        have x9 : (w4.setCell ⟨wr.heap.size, 0, none⟩ (.slice A4 n4 c4)).cell? ⟨wr.heap.size, 0, none⟩ = some (.slice A4 n4 c4) := setCell_here hb9
        obtain ⟨W5, hW5⟩ : ∃ W5, W5 = w4.setCell ⟨wr.heap.size, 0, none⟩ (.slice A4 n4 c4) := ⟨_, rfl⟩
        rw [← hW5] at hS5 hF5 x9 ⊢
        clear hW5 hown4 hkp hb9 hf9
        have hkl : k < ops.length := by rw [← HM.out]; exact hlt
        obtain ⟨y0, -, -, -, -, yt⟩ := hS5.out
        have yb := yt.fb
        have yc := yt.cr
        have yf := yt.fr
        by_cases he : (step Lk o).1 = 0
        · have ht : (((step Lk o).1 : Int) != 0) = false := by rw [he]; rfl
          have HQ := Lib.hid (rdo_ok HI.out hkl HOE.out he hS5.out hF5.out hne4.out)
          clear he yt
          go_wp2
          go_roundw
          case rel => exact ⟨k + 1, _, _, by go_num, HQ.out⟩
          case measure => simp [intOf]; omega
        · have ht : (((step Lk o).1 : Int) != 0) = true := by rw [bne_iff_ne]; omega
          have hvv := HSA.out he
          have hrun := rdo_no HI.out hkl HOE.out he
          have hL4 : (step Lk o).2 = Lk := step_refused he
          have HGR := Lib.hid yt.gr
          have HLOW := Lib.hid yt.lo
          rw [hL4, hvv] at hF5
          have HR := Lib.hid hrun
          clear he hrun hL4 hvv yt
          go_wp2
          refine bodyPost_ret (v := .tuple #[.agg #[.slice Av nv cv], .int .i64 (k : Int), .int .i64 ((step Lk o).1 : Int)]) (by simp [results, Tryd.results16, go_sem, yc]) rfl ⟨_, by rw [HR.out], ?_, ?_⟩
          · rw [HR.out]
            exact FO.le (ownsRow_setCell_below hF5.out (a := ⟨w.heap.size + 1, 0, none⟩) (by show w.heap.size + 1 < _; omega) _) (by omega)
          · exact Below.setCell HGR.out (show w.heap.size ≤ w.heap.size + 1 by omega) _
    · have hrun := rdo_end HI.out (by rw [← HM.out]; exact hlt)
      have HR := Lib.hid hrun
      have yc := HI.out.cr
      have yf := HI.out.fr
      have HLOW := Lib.hid HI.out.lo
      clear hrun
      obtain ⟨Av, nv, cv, hvv, -⟩ : ∃ A n c, v = .slice A n c ∧ True := by obtain ⟨A, c, h, _⟩ := HI.out.own.form; exact ⟨A, _, c, h, trivial⟩
      subst hvv
      go_wp2
      refine bodyPost_ret (v := .tuple #[.agg #[.slice Av nv cv], .int .i64 (m : Int), .int .i64 0]) (by simp [results, Tryd.results16, go_sem, yc]) rfl ⟨_, by rw [HR.out, ← HM.out]; rfl, ?_, ?_⟩
      · rw [HR.out]
        exact FO.le (ownsRow_setCell_below HI.out.own (a := ⟨w.heap.size + 1, 0, none⟩) (by show w.heap.size + 1 < _; omega) _) (by omega)
      · exact Below.setCell HI.out.gr (show w.heap.size ≤ w.heap.size + 1 by omega) _
end Go.Proofs.YtmkcgnljankmdaaDoor
