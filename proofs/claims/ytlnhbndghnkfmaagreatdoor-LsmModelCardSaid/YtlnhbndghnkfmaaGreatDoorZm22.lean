/- Walks: drafts as a disk, the loop. Walks: where a draft stands, where a new one goes. -/
import Derived.Test.YtlnhbndghnkfmaaGreatDoorZm21
import Derived.Deep.RegionHeld3
namespace Go.Proofs.YtlnhbndghnkfmaaGreatDoor
open Go.RowKit

/-- What lies at this address: behind a name, so that it isn't looked into. -/
def rv (a : Addr) (w : World) : Value := (w.cell? a).getD undef
theorem rv_some {a : Addr} {w : World} {u : Value} (h : w.cell? a = some u) : w.cell? a = some (rv a w) := by
  unfold rv
  rw [h]; rfl
structure WT (B bx g1 k : Nat) (p : FB) (w' : World) : Prop where
  bo : BO w' B p
  hi : bx < w'.heap.size
  hg : g1 < w'.heap.size
  ne : g1 ≠ bx
  nb : p.2.ownBlock ≠ some g1
  fr : ∀ j, w'.frozen? ⟨g1, j, none⟩ = false
abbrev WS (B bx g1 k : Nat) (f : F) (A : Option Addr) (n c : Nat) (S2 : Value) (w' : World) : Prop :=
  w'.cell? ⟨bx, 0, none⟩ = some (.string f.name) ∧ w'.cell? ⟨bx, 1, none⟩ = some (.slice A n c) ∧ w'.cell? ⟨bx, 2, none⟩ = some (.int .i64 (f.kept.size : Int)) ∧
  w'.cell? ⟨g1, k * 3, none⟩ = some (rv ⟨g1, k * 3, none⟩ w') ∧ w'.cell? ⟨g1, k * 3 + 1, none⟩ = some (rv ⟨g1, k * 3 + 1, none⟩ w') ∧ w'.cell? ⟨g1, k * 3 + 2, none⟩ = some (rv ⟨g1, k * 3 + 2, none⟩ w') ∧
  w'.frozen? ⟨g1, k * 3, none⟩ = false ∧ w'.frozen? ⟨g1, k * 3 + 1, none⟩ = false ∧ w'.frozen? ⟨g1, k * 3 + 2, none⟩ = false ∧
  (convert 121 9 (.slice A f.kept.size c)).run Tryz.prog w' = .ok (.string f.kept) w' ∧ (convert 121 9 S2).run Tryz.prog w' = .ok (.string f.loose) w' ∧ WT B bx g1 k (f, .slice A n c) w'
theorem WS.mk' {B bx g1 k : Nat} {f : F} {A : Option Addr} {n c : Nat} {S2 : Value} {w' : World} (hn : n = f.size) (hS : S2 = sliced A f.kept.size n c 1) (h0 : w'.cell? ⟨bx, 0, none⟩ = some (.string f.name)) (h1 : w'.cell? ⟨bx, 1, none⟩ = some (.slice A n c)) (h2 : w'.cell? ⟨bx, 2, none⟩ = some (.int .i64 (f.kept.size : Int)))
    {a b d : Value} (r0 : w'.cell? ⟨g1, k * 3, none⟩ = some a) (r1 : w'.cell? ⟨g1, k * 3 + 1, none⟩ = some b) (r2 : w'.cell? ⟨g1, k * 3 + 2, none⟩ = some d) (t : WT B bx g1 k (f, .slice A n c) w') : WS B bx g1 k f A n c S2 w' :=
  ⟨h0, h1, h2, rv_some r0, rv_some r1, rv_some r2, t.fr _, t.fr _, t.fr _, conv_kept t.bo hn, by rw [hS]; exact conv_loose t.bo hn, t⟩
theorem WS.gr {B bx g1 k : Nat} {f : F} {A : Option Addr} {n c : Nat} {S2 : Value} {w1 w2 : World} (h : WS B bx g1 k f A n c S2 w1) (hn : n = f.size) (hS : S2 = sliced A f.kept.size n c 1) (q : Gr w1 w2) : WS B bx g1 k f A n c S2 w2 := by
  obtain ⟨h0, h1, h2, r0, r1, r2, _, _, _, _, _, t⟩ := h
  exact WS.mk' hn hS (q.cell h0) (q.cell h1) (q.cell h2) (q.cell r0) (q.cell r1) (q.cell r2) ⟨t.bo.gr q, Nat.lt_of_lt_of_le t.hi q.size, Nat.lt_of_lt_of_le t.hg q.size, t.ne, t.nb, fun j => q.frozen t.hg (t.fr j)⟩
theorem WS.put {B bx g1 k : Nat} {f : F} {A : Option Addr} {n c : Nat} {S2 : Value} {w1 : World} (h : WS B bx g1 k f A n c S2 w1) (hn : n = f.size) (hS : S2 = sliced A f.kept.size n c 1) (a b d : Value) :
    WS B bx g1 k f A n c S2 (((w1.setCell ⟨g1, k * 3, none⟩ a).setCell ⟨g1, k * 3 + 1, none⟩ b).setCell ⟨g1, k * 3 + 2, none⟩ d) := by
  obtain ⟨h0, h1, h2, r0, r1, r2, _, _, _, _, _, t⟩ := h
  have far : ∀ {w : World} {i j : Nat} {u x : Value}, w.cell? ⟨bx, j, none⟩ = some u → (w.setCell ⟨g1, i, none⟩ x).cell? ⟨bx, j, none⟩ = some u := fun h => setCell_there h (fun e => t.ne e.symm)
  have near : ∀ {w : World} {i j : Nat} {u x : Value}, w.cell? ⟨g1, j, none⟩ = some u → ∃ y, (w.setCell ⟨g1, i, none⟩ x).cell? ⟨g1, j, none⟩ = some y := fun {w i j u x} h => by
    by_cases e : i = j
    · subst e; exact ⟨_, setCell_here h⟩
    · exact ⟨u, by rw [World.cell?_setCell_other _ _ _ _ (fun e2 => e (by injection e2))]; exact h⟩
  obtain ⟨_, s0⟩ := near (i := k * 3) (x := a) r0
  obtain ⟨_, s1⟩ := near (i := k * 3) (x := a) r1
  obtain ⟨_, s2⟩ := near (i := k * 3) (x := a) r2
  obtain ⟨_, u0⟩ := near (i := k * 3 + 1) (x := b) s0
  obtain ⟨_, u1⟩ := near (i := k * 3 + 1) (x := b) s1
  obtain ⟨_, u2⟩ := near (i := k * 3 + 1) (x := b) s2
  obtain ⟨_, v0⟩ := near (i := k * 3 + 2) (x := d) u0
  obtain ⟨_, v1⟩ := near (i := k * 3 + 2) (x := d) u1
  obtain ⟨_, v2⟩ := near (i := k * 3 + 2) (x := d) u2
  refine WS.mk' hn hS (far (far (far h0))) (far (far (far h1))) (far (far (far h2))) v0 v1 v2 ⟨?_, ?_, ?_, t.ne, t.nb, fun j => ?_⟩
  · exact own_set_other (own_set_other (own_set_other t.bo t.nb _ _) t.nb _ _) t.nb _ _
  · simpa [World.setCell] using t.hi
  · simpa [World.setCell] using t.hg
  · rw [World.frozen?_setCell, World.frozen?_setCell, World.frozen?_setCell]; exact t.fr j
def zF : F := ⟨⟨#[]⟩, ⟨#[]⟩, ⟨#[]⟩⟩
theorem made_files (n : Nat) : (madeCells #[.string ⟨#[]⟩, .string ⟨#[]⟩, .string ⟨#[]⟩] (n * 3)).toList = fcells (List.replicate n zF) := by
  apply List.ext_getElem?
  intro j
  by_cases hj : j < n * 3
  · have hq : j / 3 < n := by omega
    have hr := Nat.mod_lt j (show 0 < 3 by decide)
    have hd : j / 3 * 3 + j % 3 = j := by omega
    have hs : (fcells (List.replicate n zF))[j]? = (fcell zF)[j % 3]? := by
      have := rows_at fcell 3 fcell_len (List.replicate n zF) (j / 3) (j % 3) (by rw [List.length_replicate]; exact hq) hr
      rw [hd, List.getElem_replicate] at this
      exact this
    rw [hs]
    have : (madeCells #[Value.string ⟨#[]⟩, .string ⟨#[]⟩, .string ⟨#[]⟩] (n * 3)).toList[j]? = some (#[Value.string ⟨#[]⟩, .string ⟨#[]⟩, .string ⟨#[]⟩][j % 3]!) := by
      simp [madeCells, hj]
    rw [this]
    match j % 3, hr with
    | 0, _ => rfl
    | 1, _ => rfl
    | 2, _ => rfl
  · rw [List.getElem?_eq_none, List.getElem?_eq_none]
    · rw [fcells_len, List.length_replicate]; omega
    · simp [madeCells]; omega
theorem make_files (n : Nat) (hn : n * 48 ≤ 281474976710656) : ∃ M0 : Array Value, M0.toList = fcells (List.replicate n zF) ∧ M0.size = n * 3 ∧
    ∀ W : World, (Instr.makeSlice 22 (.int .i64 (n : Int)) (.int .i64 (n : Int))).run Tryz.prog W = .ok (.slice (some ⟨W.heap.size, 0, none⟩) n n) (W.alloc (.cells M0 63)) := by
  obtain ⟨i0, hi, hz0, hz1, hz2⟩ := info_parts infoFile
  refine ⟨madeCells #[.string ⟨#[]⟩, .string ⟨#[]⟩, .string ⟨#[]⟩] (n * 3), made_files n, by simp [madeCells], fun W => ?_⟩
  have h := run_make (P := Tryz.prog) W 22 63 i0 _ Tryz.underlying22 hi hz0 .i64 .i64 (n : Int) (n : Int) (by omega) (by omega) (by rw [hz2]; omega) (by omega)
  rw [hz1, Int.toNat_natCast] at h
  exact h
/-- The first k files written. -/
structure WRInv (M : List FB) (n k : Nat) (w wr : World) : Prop where
  hk : k ≤ n
  row : wr.ownsRow (w.heap.size + 1) 63 3 (.slice (some ⟨w.heap.size + 1, 0, none⟩) n n) n (fcells ((files M).take k ++ List.replicate (n - k) zF))
  gr : Gr w wr
  lo : w.heap.size + 1 < wr.heap.size
  cr : wr.cell? ⟨w.heap.size, 0, none⟩ = some (.slice none 0 0)
  fr : wr.frozen? ⟨w.heap.size, 0, none⟩ = false
def WRRel (M : List FB) (n : Nat) (w : World) (i : Value) (wr : World) : Prop := ∃ k : Nat, i = .int .i64 (k : Int) ∧ WRInv M n k w wr
theorem WRInv.drew {M : List FB} {n k : Nat} {w wr : World} (h : WRInv M n k w wr) : WRInv M n k w wr.drew := ⟨h.hk, own_gr h.row (Gr.refl _).drew, h.gr.drew, h.lo, h.cr, h.fr⟩
theorem wr_step {M : List FB} {n k : Nat} {f : F} {w wr w4 : World} (inv : WRInv M n k w wr) (hn : n = M.length) (hk : k < M.length) (hf : f = M[k].1) (q : Gr wr w4) :
    WRInv M n (k + 1) w (((w4.setCell ⟨w.heap.size + 1, k * 3, none⟩ (.string f.name)).setCell ⟨w.heap.size + 1, k * 3 + 1, none⟩ (.string f.kept)).setCell ⟨w.heap.size + 1, k * 3 + 2, none⟩ (.string f.loose)) := by
  have hrow := own_gr inv.row q
  have htl : ((files M).take k).length = k := by rw [List.length_take, files_len]; omega
  have hput := own_put3 fcell_len hrow (i := k) (by rw [List.length_append, List.length_replicate, htl]; omega) (y := f) rfl
  have he : ((files M).take k ++ List.replicate (n - k) zF).set k f = (files M).take (k + 1) ++ List.replicate (n - (k + 1)) zF := by
    rw [List.set_append_right _ _ (by omega), htl, Nat.sub_self, show n - k = (n - (k + 1)) + 1 by omega, List.replicate_succ, List.set_cons_zero, List.take_succ_eq_append_getElem (by rw [files_len]; exact hk), files_at hk, ← hf, List.append_assoc]
    rfl
  rw [he] at hput
  have hlo := inv.lo
  refine ⟨by omega, hput, Below.setCell (Below.setCell (Below.setCell (inv.gr.trans q) (p := ⟨w.heap.size + 1, k * 3, none⟩) (show w.heap.size ≤ w.heap.size + 1 by omega) _) (p := ⟨w.heap.size + 1, k * 3 + 1, none⟩) (show w.heap.size ≤ w.heap.size + 1 by omega) _) (p := ⟨w.heap.size + 1, k * 3 + 2, none⟩) (show w.heap.size ≤ w.heap.size + 1 by omega) _,
    by have := q.size; simp [World.setCell]; omega, setCell_there (setCell_there (setCell_there (q.cell inv.cr) (by omega)) (by omega)) (by omega), by rw [World.frozen?_setCell, World.frozen?_setCell, World.frozen?_setCell]; exact q.frozen (show w.heap.size < _ by omega) inv.fr⟩

theorem RO.at_ {w : World} {B g n c : Nat} {M : List FB} (h : RO w B (.slice (some ⟨g, 0, none⟩) n c) M) {j : Nat} (hj : j < M.length) :
    w.cell? ⟨g, j * 3, none⟩ = some (.string M[j].1.name) ∧ w.cell? ⟨g, j * 3 + 1, none⟩ = some M[j].2 ∧ w.cell? ⟨g, j * 3 + 2, none⟩ = some (.int .i64 (M[j].1.kept.size : Int)) := by
  have hn : n = M.length := by
    rcases h.2 with ⟨hh, _⟩ | ⟨g', cap', cur, hh, _⟩
    · cases hh
    · injection hh
  subst hn
  refine ⟨?_, ?_, ?_⟩
  · rw [h.cellAt (j * 3) (by omega)]; exact rows_at dcell 3 dcell_len M j 0 hj (by decide)
  · rw [h.cellAt (j * 3 + 1) (by omega)]; exact rows_at dcell 3 dcell_len M j 1 hj (by decide)
  · rw [h.cellAt (j * 3 + 2) (by omega)]; exact rows_at dcell 3 dcell_len M j 2 hj (by decide)
theorem RO.addr {w : World} {B : Nat} {v : Value} {M : List FB} (h : RO w B v M) {i : Nat} (hi : i < M.length) : ∃ g c, v = .slice (some ⟨g, 0, none⟩) M.length c := by
  obtain ⟨g, c, hv, _⟩ := World.ownsRow.form h (by omega)
  exact ⟨g, c, hv⟩
theorem wbox (f : F) (A : Option Addr) (n c : Nat) (wr : World) : ∃ W3, W3 = wr.alloc (.cells #[.string f.name, .slice A n c, .int .i64 (f.kept.size : Int)] 202) ∧ Gr wr W3 ∧
    W3.cell? ⟨wr.heap.size, 0, none⟩ = some (.string f.name) ∧ W3.cell? ⟨wr.heap.size, 1, none⟩ = some (.slice A n c) ∧ W3.cell? ⟨wr.heap.size, 2, none⟩ = some (.int .i64 (f.kept.size : Int)) ∧ wr.heap.size < W3.heap.size :=
  ⟨_, rfl, gr_box wr _, by simp, by simp, by simp, by simp⟩

set_option maxRecDepth 100000 in
set_option maxHeartbeats 4000000 in
theorem written_any (v : Value) (M : List FB) (B : Nat) (w : World) (hv : DR w B v M) (hf : Fit (files M)) (hlen : M.length * 48 ≤ 281474976710656) :
    Calls Tryz.prog 173 #[v] w fun e w' => RetDisk (files M) w e w' := by
  obtain ⟨A, c, hva, hnc, hc63⟩ := own_form hv.row
  subst hva
  have HV := Lib.hid hv
  have HFit := Lib.hid hf
  obtain ⟨n, hn⟩ : ∃ n, n = M.length := ⟨_, rfl⟩
  rw [← hn] at HV hlen hnc ⊢
  have HN := Lib.hid hn
  clear hv hn hf
  obtain ⟨M0, hM1, hM2, hmk0⟩ := make_files n hlen
  have hmk : ∀ W : World, (Instr.makeSlice 22 (.int .i64 (n : Int)) (.int .i64 (n : Int))).run Tryz.prog W = .ok (.slice (some ⟨W.heap.size, 0, none⟩) n n) (W.alloc (.cells M0 63)) := hmk0
  have HST : Hid (WRRel M n w (.int .i64 0) ((w.alloc (.cells #[.slice none 0 0] 24)).alloc (.cells M0 63))) := by
    refine ⟨0, rfl, Nat.zero_le _, ?_, (gr_box w _).alloc _, (by simp), (by simp), (by simp)⟩
    have h := World.ownsRow_lit (base := w.heap.size + 1) (e := 63) (size := 3) (w.alloc (.cells #[.slice none 0 0] 24)) M0 n (by simp) (by unfold maxLen; omega) hM2
    rw [hM1] at h
    rw [List.take_zero, List.nil_append, Nat.sub_zero]
    simpa using h
  clear hM1 hM2 hmk0
  go_enter Tryz.func173, Tryz.ntmps173
  go_wp2_with fail
  clear hmk
  go_loopw [11] (fun i wr => WRRel M n w i wr) (fun i _ => n - (intOf i).toNat)
  case atStart => exact HST.out
  case round =>
    obtain ⟨k, rfl, inv⟩ := hrel
    have HI := Lib.hid inv
    have hk : k ≤ n := inv.hk
    clear inv HST
    by_cases hlt : k < n
    · have hkM : k < M.length := by rw [← HN.out]; exact hlt
      obtain ⟨g, cc, hvv⟩ := HV.out.row.addr hkM
      injection hvv with h1 h2 h3
      subst h1 h3
      clear h2
      obtain ⟨q0, q1, q2⟩ := HV.out.row.at_ hkM
      have hbo := HV.out.bytes M[k] (List.getElem_mem hkM)
      have hfit := HFit.out _ (List.mem_map_of_mem (f := Prod.fst) (List.getElem_mem hkM))
      unfold FitF F.size at hfit
      have hs0 := hfit.1
      have hs := hfit.2
      obtain ⟨p, hpe⟩ : ∃ p, p = M[k] := ⟨_, rfl⟩
      rw [← hpe] at q0 q1 q2 hbo hs0 hs
      have HPE := Lib.hid hpe
      obtain ⟨f, bv⟩ := p
      obtain ⟨A1, c1, hbv, hb1, hb2⟩ := own_form hbo
      have hbv : bv = .slice A1 f.size c1 := hbv
      subst hbv
      obtain ⟨N, hN⟩ : ∃ N, N = f.size := ⟨_, rfl⟩
      dsimp only at q0 q1 q2 hs0 hs hb1
      have hbo2 : BO w B (f, .slice A1 N c1) := by rw [hN]; exact hbo
      rw [← hN] at q1 hb1
      have hNs : f.kept.size ≤ N := by rw [hN]; unfold F.size; omega
      have HNf := Lib.hid hN
      have c0 := HI.out.gr.cell q0
      have c1' := HI.out.gr.cell q1
      have c2 := HI.out.gr.cell q2
      have hnb : (Value.slice A1 N c1).ownBlock ≠ some (w.heap.size + 1) := fun e => by have := (World.ownsRow.lt hbo2 _ e).2; omega
      obtain ⟨W3, hW3, G3, x0, x1, x2, hz3⟩ := wbox f A1 N c1 wr
      have hrow := HI.out.row
      have hat : ∀ r, r < 3 → W3.cell? ⟨w.heap.size + 1, k * 3 + r, none⟩ = (fcell zF)[r]? := by
        intro r hr
        rw [(own_gr hrow G3).cellAt (k * 3 + r) (by omega)]
        have htl : ((files M).take k).length = k := by rw [List.length_take, files_len]; omega
        have h := rows_at fcell 3 fcell_len ((files M).take k ++ List.replicate (n - k) zF) k r (by rw [List.length_append, List.length_replicate, htl]; omega) hr
        rw [List.getElem_append_right (by omega), List.getElem_replicate] at h
        exact h
      obtain ⟨S2, hS2⟩ : ∃ S, S = sliced A1 f.kept.size N c1 1 := ⟨_, rfl⟩
      have HS := Lib.hid (WS.mk' (B := B) (g1 := w.heap.size + 1) (k := k) (f := f) HNf.out hS2 x0 x1 x2 (hat 0 (by decide)) (hat 1 (by decide)) (hat 2 (by decide)) ⟨own_gr hbo2 (HI.out.gr.trans G3), hz3, by have := HI.out.lo; have := G3.size; omega, by have := HI.out.lo; omega, hnb, (own_gr hrow G3).frozenAt⟩)
      have hsl1 := bslice_to N c1 f.kept.size (by omega) A1
      have hsl2 := bslice_from N c1 f.kept.size hNs A1
      rw [← hS2] at hsl2
      have HS2 := Lib.hid hS2
      have HK0 := Lib.hid (clone_any f.name hs0)
      clear q0 q1 q2 hbo hbo2 hfit hs0 hpe hN hrow hat x0 x1 x2 hS2 hNs hnb
      go_wp2_with fail
      rw [← hW3]
      clear hW3 c0 c1' c2
      obtain ⟨bx, hbx⟩ : ∃ b, b = wr.heap.size := ⟨_, rfl⟩
      rw [← hbx] at HS hz3 ⊢
      clear hbx
      go_region_held3 (fun w' => WS B bx (w.heap.size + 1) k f A1 N c1 S2 w')
        (first
          | (with_reducible exact HS.out)
          | (with_reducible exact WS.gr HS.out HNf.out HS2.out (Gr.refl _).drew)
          | (with_reducible exact WS.gr (WS.gr HS.out HNf.out HS2.out (Gr.refl _).drew) HNf.out HS2.out hb)
          | (with_reducible exact WS.put (WS.gr (WS.gr HS.out HNf.out HS2.out (Gr.refl _).drew) HNf.out HS2.out hb) HNf.out HS2.out _ _ _))
        (first
          | (go_at_call 66; (with_reducible refine (HK0.out _).mono ?_); rintro e w4 ⟨rfl, hb⟩))
      have HQ := Lib.hid (wr_step HI.out HN.out hkM (show f = M[k].1 by rw [← HPE.out]) (Gr.trans (G3.drew) hb))
      clear ‹WS _ _ _ _ _ _ _ _ _ (World.setCell _ _ _)› hsl1 hsl2
      go_wp2
      go_roundw
      case rel => exact ⟨k + 1, by go_num, HQ.out⟩
      case measure => simp [intOf]; omega
    · have hkn : k = n := by omega
      have hcr := HI.out.cr
      have hfr := HI.out.fr
      have hro := HI.out.row
      rw [hkn, Nat.sub_self, List.replicate_zero, List.append_nil, List.take_of_length_le (by rw [files_len, ← HN.out]; exact Nat.le_refl _)] at hro
      have HRO := Lib.hid hro
      clear hro hkn
      go_wp2
      refine bodyPost_ret (v := .agg #[.slice (some ⟨w.heap.size + 1, 0, none⟩) n n]) (by simp [results, Tryz.results173, go_sem, hcr]) rfl ⟨_, rfl, ?_, ?_⟩
      · show World.ownsRow _ _ _ _ _ _ _
        rw [files_len, ← HN.out]
        exact own_le (B := w.heap.size + 1) (B' := w.heap.size) (own_set_other HRO.out (fun e => by have e1 : w.heap.size + 1 = w.heap.size := Option.some.inj e; omega) _ _) (by omega)
      · exact Below.setCell HI.out.gr (Nat.le_refl _) _
end Go.Proofs.YtlnhbndghnkfmaaGreatDoor
namespace Go.Proofs.YtlnhbndghnkfmaaGreatDoor
open Go.RowKit

set_option maxRecDepth 100000 in
theorem named_any (nm x : ByteArray) (A : Option Addr) (n c : Nat) (ki : Int) (bo : Nat) (w : World) (h : w.cell? ⟨bo, 1, none⟩ = some (.string nm)) :
    Calls Tryz.prog 182 #[.agg #[.string x, .slice A n c, .int .i64 ki], .pointer (some ⟨bo, 0, none⟩)] w fun e w' => e = .returned (.bool (eqS x nm)) ∧ Gr w w' := by
  have h1 := (gr_box w (.cells #[.string x, .slice A n c, .int .i64 ki] 202)).cell h
  have HG := Lib.hid (gr_box w (.cells #[.string x, .slice A n c, .int .i64 ki] 202))
  clear h
  go_enter Tryz.func182, Tryz.ntmps182
  go_wp2
  go_ret
  exact ⟨rfl, HG.out⟩

def IFRel (M : List FB) (nm : ByteArray) (w : World) (i : Value) (wr : World) : Prop :=
  ∃ k : Nat, k ≤ M.length ∧ i = .int .i64 (k : Int) ∧ Gr w wr ∧ ∀ j (hj : j < (files M).length), j < k → (files M)[j].name ≠ nm
set_option maxRecDepth 100000 in
set_option maxHeartbeats 1000000 in
theorem indexFunc_any (v : Value) (M : List FB) (B : Nat) (nm : ByteArray) (bo : Nat) (w : World) (hv : DR w B v M) (hbo : w.cell? ⟨bo, 1, none⟩ = some (.string nm)) :
    Calls Tryz.prog 181 #[v, .func (.func 182) #[] #[.pointer (some ⟨bo, 0, none⟩)]] w fun e w' => e = .returned (.int .i64 (findI (files M) nm)) ∧ Gr w w' := by
  obtain ⟨A, c, hva, hnc, hc63⟩ := own_form hv.row
  subst hva
  have HV := Lib.hid hv
  obtain ⟨n, hn⟩ : ∃ n, n = M.length := ⟨_, rfl⟩
  rw [← hn] at HV hnc ⊢
  have HN := Lib.hid hn
  have HBO := Lib.hid hbo
  clear hv hn hbo
  go_enter Tryz.func181, Tryz.ntmps181
  go_wp2_with fail
  go_loopw [8] (fun i wr => IFRel M nm w i wr) (fun i _ => n - (intOf i).toNat)
  case atStart => exact ⟨0, Nat.zero_le _, rfl, Gr.refl _, fun j _ h => absurd h (Nat.not_lt_zero _)⟩
  case round =>
    obtain ⟨k, hk, rfl, hgr, hall⟩ := hrel
    rw [← HN.out] at hk
    have HAL := Lib.hid hall
    clear hall
    by_cases hlt : k < n
    · have hkM : k < M.length := by rw [← HN.out]; exact hlt
      obtain ⟨g, cc, hvv⟩ := HV.out.row.addr hkM
      injection hvv with h1 h2 h3
      subst h1 h3
      clear h2
      obtain ⟨q0, q1, q2⟩ := HV.out.row.at_ hkM
      have hbv := HV.out.bytes M[k] (List.getElem_mem hkM)
      obtain ⟨A1, c1, hb, _⟩ := own_form hbv
      rw [hb] at q1
      have c0 := hgr.cell q0
      have c1' := hgr.cell q1
      have c2 := hgr.cell q2
      have hfn : (files M)[k]'(by rw [files_len]; exact hkM) = M[k].1 := files_at hkM
      obtain ⟨x, hx⟩ : ∃ x, x = M[k].1.name := ⟨_, rfl⟩
      obtain ⟨N, hN⟩ : ∃ N, N = M[k].1.size := ⟨_, rfl⟩
      obtain ⟨ki, hki⟩ : ∃ N : Int, N = (M[k].1.kept.size : Int) := ⟨_, rfl⟩
      rw [← hx] at c0
      rw [← hN] at c1'
      rw [← hki] at c2
      have HC := Lib.hid (named_any nm x A1 N c1 ki bo wr (hgr.cell HBO.out))
      rcases hq : eqS x nm with _ | _
      · rw [hq] at HC
        have HA2 : Hid (∀ j (hj : j < (files M).length), j < k + 1 → (files M)[j].name ≠ nm) := by
          intro j hj hjk
          by_cases e : j = k
          · subst e; rw [hfn, ← hx]; intro e2; rw [e2, eqS_self] at hq; cases hq
          · exact HAL.out j hj (by omega)
        clear hq hx hN hki q0 q1 q2 hfn hbv hb
        go_wp2_with fail
        refine HC.out.mono ?_
        rintro e w1 ⟨rfl, g1⟩
        go_wp2_with fail
        go_roundw
        case rel => exact ⟨k + 1, by rw [← HN.out]; omega, by go_num, hgr.trans g1, HA2.out⟩
        case measure => simp [intOf]; omega
      · rw [hq] at HC
        have HF := Lib.hid (findI_at (L := files M) (nm := nm) (k := k) (by rw [files_len]; exact hkM) (by rw [hfn, ← hx]; exact eqS_iff.1 hq) (fun j hj => HAL.out j (by rw [files_len]; omega) hj))
        clear hq hx hN hki q0 q1 q2 hfn hbv hb
        go_wp2_with fail
        refine HC.out.mono ?_
        rintro e w1 ⟨rfl, g1⟩
        go_wp2_with fail
        go_ret
        exact ⟨by rw [HF.out]; rfl, hgr.trans g1⟩
    · have HF := Lib.hid (findI_none (L := files M) (nm := nm) (fun j hj => HAL.out j hj (by rw [files_len, ← HN.out] at hj; omega)))
      go_wp2_with fail
      go_ret
      exact ⟨by rw [HF.out]; rfl, hgr⟩

def NPRel (M : List FB) (nm : ByteArray) (w : World) (i : Value) (wr : World) : Prop :=
  ∃ k : Nat, k ≤ M.length ∧ i = .int .i64 (k : Int) ∧ Gr w wr ∧ ∀ j (hj : j < (files M).length), j < k → lessS (files M)[j].name nm = true
set_option maxRecDepth 100000 in
set_option maxHeartbeats 1000000 in
theorem newPlace_any (v : Value) (M : List FB) (B : Nat) (nm : ByteArray) (w : World) (hv : DR w B v M) (hno : ¬ findF (files M) nm < (files M).length) :
    Calls Tryz.prog 189 #[v, .string nm] w fun e w' => e = .returned (.int .i64 (placeF (files M) nm : Int)) ∧ Gr w w' := by
  obtain ⟨A, c, hva, hnc, hc63⟩ := own_form hv.row
  subst hva
  have HV := Lib.hid hv
  have HNO := Lib.hid hno
  obtain ⟨n, hn⟩ : ∃ n, n = M.length := ⟨_, rfl⟩
  rw [← hn] at HV hnc ⊢
  have HN := Lib.hid hn
  clear hv hn hno
  go_enter Tryz.func189, Tryz.ntmps189
  go_wp2_with fail
  go_loopw [9] (fun i wr => NPRel M nm w i wr) (fun i _ => n - (intOf i).toNat)
  case atStart => exact ⟨0, Nat.zero_le _, rfl, Gr.refl _, fun j _ h => absurd h (Nat.not_lt_zero _)⟩
  case round =>
    obtain ⟨k, hk, rfl, hgr, hall⟩ := hrel
    rw [← HN.out] at hk
    have HAL := Lib.hid hall
    clear hall
    by_cases hlt : k < n
    · have hkM : k < M.length := by rw [← HN.out]; exact hlt
      obtain ⟨g, cc, hvv⟩ := HV.out.row.addr hkM
      injection hvv with h1 h2 h3
      subst h1 h3
      clear h2
      obtain ⟨q0, q1, q2⟩ := HV.out.row.at_ hkM
      have hbv := HV.out.bytes M[k] (List.getElem_mem hkM)
      obtain ⟨A1, c1, hb, _⟩ := own_form hbv
      rw [hb] at q1
      have c0 := hgr.cell q0
      have c1' := hgr.cell q1
      have c2 := hgr.cell q2
      have hfn : (files M)[k]'(by rw [files_len]; exact hkM) = M[k].1 := files_at hkM
      have hne : M[k].1.name ≠ nm := by rw [← hfn]; exact findF_before (by have := HNO.out; rw [files_len] at this; omega) _
      obtain ⟨x, hx⟩ : ∃ x, x = M[k].1.name := ⟨_, rfl⟩
      obtain ⟨N, hN⟩ : ∃ N, N = M[k].1.size := ⟨_, rfl⟩
      obtain ⟨ki, hki⟩ : ∃ N : Int, N = (M[k].1.kept.size : Int) := ⟨_, rfl⟩
      rw [← hx] at c0 hne
      rw [← hN] at c1'
      rw [← hki] at c2
      have he : (x.toList == nm.toList) = false := eqS_ne hne
      rcases hq : lessS x nm with _ | _
      · have ht : Op.bytesLess x.toList nm.toList = false := hq
        have HF : Hid (placeF (files M) nm = k) := placeF_eq (L := files M) (by rw [files_len]; exact hkM) (by rw [hfn, ← hx]; exact hq) (fun j hj => HAL.out j (by rw [files_len]; omega) hj)
        clear hq hx hN hki q0 q1 q2 hfn hbv hb hne
        go_wp2_with fail
        go_ret
        exact ⟨by rw [HF.out]; rfl, hgr.alloc _⟩
      · have ht : Op.bytesLess x.toList nm.toList = true := hq
        have HA2 : Hid (∀ j (hj : j < (files M).length), j < k + 1 → lessS (files M)[j].name nm = true) := by
          intro j hj hjk
          by_cases e : j = k
          · subst e; rw [hfn, ← hx]; exact hq
          · exact HAL.out j hj (by omega)
        clear hq hx hN hki q0 q1 q2 hfn hbv hb hne
        go_wp2_with fail
        go_roundw
        case rel => exact ⟨k + 1, by rw [← HN.out]; omega, by go_num, hgr.alloc _, HA2.out⟩
        case measure => simp [intOf]; omega
    · have HF : Hid (placeF (files M) nm = n) := by
        have := placeF_none (L := files M) (nm := nm) (fun j hj => HAL.out j hj (by rw [files_len, ← HN.out] at hj; omega))
        show placeF (files M) nm = n
        rw [this, files_len, ← HN.out]
      go_wp2_with fail
      go_ret
      exact ⟨by rw [HF.out]; rfl, hgr⟩
end Go.Proofs.YtlnhbndghnkfmaaGreatDoor
