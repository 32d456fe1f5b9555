/- Texts CaE, joined. -/
import Derived.Test.YtjpiemgpbakfaaaG26
/- Walk: package cast's settle. -/
namespace Go.Proofs.Ytjpiemgpbakfaaa
open Go.RowKit Go.Joins
set_option linter.unusedSimpArgs false
set_option linter.unusedVariables false

theorem letF_mem {l : LG} : ∀ (W st : List TX) (t : TX), t ∈ (letF l W st).2.1 → t ∈ st ∨ t ∈ W
  | [], st, t, h => .inl h
  | x :: r, st, t, h => by
    unfold letF at h
    split at h
    · rcases List.mem_append.1 h with h | h
      · exact .inl h
      · exact .inr (List.mem_cons_of_mem _ h)
    · split at h
      · rcases letF_mem r (st ++ [x]) t h with h | h
        · rcases List.mem_append.1 h with h | h
          · exact .inl h
          · rw [List.mem_singleton] at h; rw [h]; exact .inr (List.mem_cons_self)
        · exact .inr (List.mem_cons_of_mem _ h)
      · rcases letF_mem r st t h with h | h
        · exact .inl h
        · exact .inr (List.mem_cons_of_mem _ h)
theorem letF_len {l : LG} : ∀ (W st : List TX), ((letF l W st).2.2 = true → (letF l W st).2.1.length < st.length + W.length) ∧ (letF l W st).2.1.length ≤ st.length + W.length
  | [], st => ⟨fun h => (by cases h), Nat.le_refl _⟩
  | x :: r, st => by
    unfold letF
    split
    · simp only [List.length_append, List.length_cons]
      exact ⟨fun _ => by omega, by omega⟩
    · split
      · have := letF_len (l := l) r (st ++ [x])
        simp only [List.length_append, List.length_cons, List.length_nil] at this ⊢
        exact ⟨fun h => by have := this.1 h; omega, by omega⟩
      · have := letF_len (l := l) r st
        simp only [List.length_cons] at this ⊢
        exact ⟨fun h => by have := this.1 h; omega, by omega⟩
theorem letF_fit {l : LG} (hf : FitC l) : ∀ (W st : List TX), (∀ t ∈ W, FitT t) → FitC (letF l W st).1
  | [], st, _ => hf
  | x :: r, st, h => by
    unfold letF
    split
    · exact addR_fitC hf (h x List.mem_cons_self).2
    · split
      · exact letF_fit hf r _ fun t ht => h t (List.mem_cons_of_mem _ ht)
      · exact letF_fit hf r _ fun t ht => h t (List.mem_cons_of_mem _ ht)
/-- All that may come in comes in. -/
def setN : Nat → LG → List TX → LG × List TX
  | 0, l, W => (l, W)
  | n + 1, l, W => if (letF l W []).2.2 = true then setN n (letF l W []).1 (letF l W []).2.1 else ((letF l W []).1, (letF l W []).2.1)
theorem setN_fuel : ∀ (n m : Nat) (l : LG) (W : List TX), W.length < n → W.length < m → setN n l W = setN m l W
  | 0, _, _, _, h, _ => absurd h (Nat.not_lt_zero _)
  | _ + 1, 0, _, _, _, h => absurd h (Nat.not_lt_zero _)
  | n + 1, m + 1, l, W, h1, h2 => by
    unfold setN
    split
    · next h =>
      have := (letF_len (l := l) W []).1 h
      simp only [List.length_nil] at this
      exact setN_fuel n m _ _ (by omega) (by omega)
    · rfl
theorem setN_more {n : Nat} {l l' : LG} {W W' : List TX} (h : letF l W [] = (l', W', true)) (hn : W.length < n) : setN n l W = setN (W'.length + 1) l' W' := by
  obtain ⟨k, rfl⟩ : ∃ k, n = k + 1 := ⟨n - 1, by omega⟩
  have hl := (letF_len (l := l) W []).1 (by rw [h])
  rw [h, List.length_nil] at hl
  simp only at hl
  show (if _ then _ else _) = _
  rw [h, if_pos rfl]
  exact setN_fuel _ _ _ _ (by show W'.length < k; omega) (by show W'.length < W'.length + 1; omega)
theorem setN_done {n : Nat} {l l' : LG} {W W' : List TX} (h : letF l W [] = (l', W', false)) : setN (n + 1) l W = (l', W') := by
  show (if _ then _ else _) = _
  rw [h, if_neg (by simp)]

/-- The cells of an inbox: its eight logs, what waits. -/
abbrev icells (u : Nat → S3) (s : S3) : Array Value := #[.slice (u 0).a (u 0).n (u 0).c, .slice (u 1).a (u 1).n (u 1).c, .slice (u 2).a (u 2).n (u 2).c, .slice (u 3).a (u 3).n (u 3).c, .slice (u 4).a (u 4).n (u 4).c, .slice (u 5).a (u 5).n (u 5).c, .slice (u 6).a (u 6).n (u 6).c, .slice (u 7).a (u 7).n (u 7).c, .slice s.a s.n s.c]
structure IBox (w : World) (b : Nat) (u : Nat → S3) (s : S3) : Prop where
  box : w.heap[b]? = some (.cells (icells u s) 35 (0, 0))
def N3 : S3 := ⟨none, 0, 0⟩
abbrev zic : Array Value := #[.slice none 0 0, .slice none 0 0, .slice none 0 0, .slice none 0 0, .slice none 0 0, .slice none 0 0, .slice none 0 0, .slice none 0 0, .slice none 0 0]
section
variable {w w' : World} {b : Nat} {u : Nat → S3} {s : S3}
theorem IBox.gr (h : IBox w b u s) (g : Gr w w') : IBox w' b u s := ⟨gr_obj g h.box⟩
theorem IBox.lt (h : IBox w b u s) : b < w.heap.size := (Array.getElem?_eq_some_iff.1 h.box).1
theorem IBox.keep (h : IBox w b u s) (e : w'.heap[b]? = w.heap[b]?) : IBox w' b u s := ⟨by rw [e]; exact h.box⟩
theorem IBox.kpN {g : Nat} (h : IBox w b u s) (k : Kp (some g) w w') (hb : b ≠ g) : IBox w' b u s := h.keep (k.block b h.lt (fun e => hb (by injection e)))
theorem IBox.all (h : IBox w b u s) : w.cell? ⟨b, 0, none⟩ = some (.slice (u 0).a (u 0).n (u 0).c) ∧ w.cell? ⟨b, 1, none⟩ = some (.slice (u 1).a (u 1).n (u 1).c) ∧ w.cell? ⟨b, 2, none⟩ = some (.slice (u 2).a (u 2).n (u 2).c) ∧ w.cell? ⟨b, 3, none⟩ = some (.slice (u 3).a (u 3).n (u 3).c) ∧ w.cell? ⟨b, 4, none⟩ = some (.slice (u 4).a (u 4).n (u 4).c) ∧ w.cell? ⟨b, 5, none⟩ = some (.slice (u 5).a (u 5).n (u 5).c) ∧ w.cell? ⟨b, 6, none⟩ = some (.slice (u 6).a (u 6).n (u 6).c) ∧ w.cell? ⟨b, 7, none⟩ = some (.slice (u 7).a (u 7).n (u 7).c) ∧ w.cell? ⟨b, 8, none⟩ = some (.slice s.a s.n s.c) :=
  ⟨by rw [cell_of_block h.box]; rfl, by rw [cell_of_block h.box]; rfl, by rw [cell_of_block h.box]; rfl, by rw [cell_of_block h.box]; rfl, by rw [cell_of_block h.box]; rfl, by rw [cell_of_block h.box]; rfl, by rw [cell_of_block h.box]; rfl, by rw [cell_of_block h.box]; rfl, by rw [cell_of_block h.box]; rfl⟩
theorem IBox.fz (h : IBox w b u s) : w.frozen? ⟨b, 0, none⟩ = false ∧ w.frozen? ⟨b, 1, none⟩ = false ∧ w.frozen? ⟨b, 2, none⟩ = false ∧ w.frozen? ⟨b, 3, none⟩ = false ∧ w.frozen? ⟨b, 4, none⟩ = false ∧ w.frozen? ⟨b, 5, none⟩ = false ∧ w.frozen? ⟨b, 6, none⟩ = false ∧ w.frozen? ⟨b, 7, none⟩ = false ∧ w.frozen? ⟨b, 8, none⟩ = false :=
  ⟨unfrozen_of_block h.box 0, unfrozen_of_block h.box 1, unfrozen_of_block h.box 2, unfrozen_of_block h.box 3, unfrozen_of_block h.box 4, unfrozen_of_block h.box 5, unfrozen_of_block h.box 6, unfrozen_of_block h.box 7, unfrozen_of_block h.box 8⟩
theorem IBox.zero (h : IBox w b Z3 N3) : w.cell? ⟨b, 0, none⟩ = some (.slice none 0 0) ∧ w.cell? ⟨b, 1, none⟩ = some (.slice none 0 0) ∧ w.cell? ⟨b, 2, none⟩ = some (.slice none 0 0) ∧ w.cell? ⟨b, 3, none⟩ = some (.slice none 0 0) ∧ w.cell? ⟨b, 4, none⟩ = some (.slice none 0 0) ∧ w.cell? ⟨b, 5, none⟩ = some (.slice none 0 0) ∧ w.cell? ⟨b, 6, none⟩ = some (.slice none 0 0) ∧ w.cell? ⟨b, 7, none⟩ = some (.slice none 0 0) ∧ w.cell? ⟨b, 8, none⟩ = some (.slice none 0 0) := h.all
end
theorem ibox_new (w : World) (u : Nat → S3) (s : S3) : ∃ W, W = w.alloc (.cells (icells u s) 35) ∧ Gr w W ∧ W.heap.size = w.heap.size + 1 ∧ IBox W w.heap.size u s := ⟨_, rfl, (Gr.refl _).alloc _, by simp, ⟨heap_alloc _ _ _⟩⟩
theorem zibox (w : World) : IBox (w.alloc (.cells zic 35)) w.heap.size Z3 N3 := ⟨heap_alloc _ _ _⟩
/-- An inbox put into a box. -/
abbrev putI (w : World) (b : Nat) (u : Nat → S3) (s : S3) : World := putCells w b 0 (icells u s).toList
theorem putC_kp (w : World) (b : Nat) (cs : List Value) (o : Nat) : Kp (some b) w (putCells w b o cs) := by
  have one : ∀ (cs : List Value) (o : Nat) (w : World), Kp (some b) w (putCells w b o cs) := fun cs => by
    induction cs with
    | nil => exact fun o w => Kp.refl _ _
    | cons x r ih => exact fun o w => ((Kp.refl (some b) w).set (.inr rfl) o x).trans (ih (o + 1) _)
  exact one _ _ _
theorem putI_box {w : World} {b : Nat} {u0 u : Nat → S3} {s0 s : S3} (h : IBox w b u0 s0) : IBox (putI w b u s) b u s := ⟨putCells_full h.box rfl⟩
theorem putI_kp (w : World) (b : Nat) (u : Nat → S3) (s : S3) : Kp (some b) w (putI w b u s) := putC_kp _ _ _ _
theorem putI_gr {w0 w : World} {b : Nat} (h : Gr w0 w) (hb : w0.heap.size ≤ b) (u : Nat → S3) (s : S3) : Gr w0 (putI w b u s) := Gr.putCells hb _ _ h
/-- A row lies apart from a box of another type. -/
theorem own_kpT {w w' : World} {B b : Nat} {size n : Nat} {t T : TypeId} {v : Value} {xs : List Value} {cs : Array Value} {fr : Nat × Nat} (h : w.ownsRow B t size v n xs) (hb : w.heap[b]? = some (.cells cs T fr)) (ht : t ≠ T) (k : Kp (some b) w w') : w'.ownsRow B t size v n xs := by
  refine World.ownsRow.kept h k (.inr fun e => ?_)
  rcases h.2 with ⟨rfl, _⟩ | ⟨g, cap, cur, rfl, _, hg, _⟩
  · simp [Value.ownBlock] at e
  · have e1 : g = b := by simpa [Value.ownBlock] using e
    subst e1
    rw [hb] at hg
    injection hg with hg
    injection hg with _ hg
    exact ht hg.symm
theorem XN.kpI {w w' : World} {B b : Nat} {v : Value} {L : List TX} {u : Nat → S3} {s : S3} (h : XN w B v L) (hb : IBox w b u s) (k : Kp (some b) w w') : XN w' B v L := by
  obtain ⟨R, h1, h2, h3⟩ := h
  exact ⟨R, h1, own_kpT h2 hb.box (by decide) k, fun r hr => own_kpT (h3 r hr) hb.box (by decide) k⟩
theorem LN.kpI {w w' : World} {B b : Nat} {v : Nat → S3} {l : LG} {u : Nat → S3} {s : S3} (h : LN w B v l) (hb : IBox w b u s) (k : Kp (some b) w w') : LN w' B v l := fun i hi => (h i hi).kpI hb k
theorem XN.gr {w w' : World} {B : Nat} {v : Value} {L : List TX} (h : XN w B v L) (g : Gr w w') : XN w' B v L := h.mid (Mid.of_gr g)
theorem XN.form {w : World} {B : Nat} {v : Value} {L : List TX} (h : XN w B v L) : ∃ A c, v = .slice A L.length c := xv_form h.xv
/-- Is a round still to come, and how long may it go on? -/
def mesS (v b : Value) : Nat := match b, v with
  | .bool true, .slice _ n _ => n + 1
  | _, _ => 0
/-- What settle's rounds leave. -/
structure SeR (w0 w : World) (B : Nat) (G : LG × List TX) (v : Value) (b : Bool) (u : Nat → S3) (l : LG) (R : List TR) (wr : World) : Prop where
  a : LBox wr w.heap.size u
  z : IBox wr (w.heap.size + 1) Z3 N3
  ln : LN wr B u l
  sl : SL wr 12 v R.length (trs R)
  ops : TOs w0 R
  le : R.length ≤ 64
  fc : FitC l
  ft : ∀ r ∈ R, FitT r.1
  is : if b = true then setN (R.length + 1) l (texts R) = G else (l, texts R) = G
  gr : Gr w wr
theorem boxesSe (u : Nat → S3) (w : World) : ∃ W, W = (w.alloc (.cells (lcells u) 24)).alloc (.cells zic 35) ∧ Gr w W ∧ W.heap.size = w.heap.size + 2 ∧
    LBox W w.heap.size u ∧ IBox W (w.heap.size + 1) Z3 N3 := by
  obtain ⟨W, hW, hg, hs, hL⟩ := boxLC u w
  refine ⟨_, rfl, ((Gr.refl w).alloc _).alloc _, by simp, ?_, ?_⟩
  · rw [← hW]; exact hL.gr (gr_box _ _)
  · rw [← hW]
    have := zibox W
    rw [hs] at this
    exact this

set_option maxRecDepth 100000 in
set_option maxHeartbeats 8000000 in
theorem settle_any (u : Nat → S3) (l : LG) (A : Option Addr) (n c : Nat) (R : List TR) (w0 w : World) (B : Nat) (h : LN w B u l) (hB : B ≤ w.heap.size) (g0 : Gr w0 w) (hs : SL w 12 (.slice A n c) n (trs R)) (hn : n = R.length) (ho : TOs w0 R) (hf : FitC l) (hr : ∀ r ∈ R, FitT r.1) (hlen : n ≤ 64) :
    Calls Try.prog 23 #[.agg (lcells u), .slice A n c] w fun e w' => ∃ u' s', e = .returned (.agg (icells u' s')) ∧ LN w' B u' (setN (n + 1) l (texts R)).1 ∧ XN w' B s'.v (setN (n + 1) l (texts R)).2 ∧ Gr w w' := by
  obtain ⟨W, hW, hg, hsz, hL, hZ⟩ := boxesSe u w
  obtain ⟨G, hG⟩ : ∃ G, G = setN (n + 1) l (texts R) := ⟨_, rfl⟩
  rw [← hG]
  have HSE0 : Hid (SeR w0 w B G (.slice A n c) true u l R W) := Lib.hid ⟨hL, hZ, h.gr hg, by rw [← hn]; exact hs.gr hg, ho, by omega, hf, hr, by rw [if_pos rfl, ← hn, hG], hg⟩
  have HB := Lib.hid hB
  have HG0 := Lib.hid g0
  clear hL hZ hg hsz h hs ho hf hr hB g0 hG hn hlen
  go_enter Try.func23, Try.ntmps23
  go_upto_region 1 with (fail)
  rw [← hW]
  clear hW
  go_wp2_with fail
  go_loopw [1, 5] (fun v b wr => ∃ m, b = .bool m ∧ Hid (∃ u l R, SeR w0 w B G v m u l R wr)) (fun v b _ => mesS v b)
  case atStart => exact ⟨true, rfl, Lib.hid ⟨u, l, R, HSE0.out⟩⟩
  case round =>
    clear HSE0
    obtain ⟨m, rfl, hst⟩ := hrel
    rename World => wr
    obtain ⟨u1, l1, R1, hse⟩ := hst.out
    obtain ⟨A1, c1, hv1, hnc1, h63, -⟩ := hse.sl
    subst hv1
    obtain ⟨n1, hn1⟩ : ∃ n, n = R1.length := ⟨_, rfl⟩
    rw [← hn1] at hst hnc1 ⊢
    have HN1 := Lib.hid hn1
    have HSE := Lib.hid hse
    rw [← hn1] at HSE
    obtain ⟨l0, l1', l2, l3, l4, l5, l6, l7⟩ := hse.a.all
    rcases m with _ | _
    · have HIS : Hid ((l1, texts R1) = G) := Lib.hid (by have := hse.is; rwa [if_neg (by simp)] at this)
      have HCP := Lib.hid (fun w1 (g : Gr wr w1) => wcopies_any (.slice A1 n1 c1) (texts R1) w1 ((xv_of_sl (by have := hse.sl; rw [← hn1] at this ⊢; exact this) ((hse.ops.gr HG0.out).gr hse.gr)).gr g) (fun t ht => by
        obtain ⟨r, hr, rfl⟩ := List.mem_map.1 ht
        exact (hse.ft r hr).2) (by rw [texts_len]; have := hse.le; omega))
      clear hse hst hn1 hnc1 h63
      go_upto_region 4 with (fail)
      refine wp_region_held_drew (S := fun w' => LC w' w.heap.size u1) (by kernel_rfl) ⟨(Gr.refl _).drew.cell l0, (Gr.refl _).drew.cell l1', (Gr.refl _).drew.cell l2, (Gr.refl _).drew.cell l3, (Gr.refl _).drew.cell l4, (Gr.refl _).drew.cell l5, (Gr.refl _).drew.cell l6, (Gr.refl _).drew.cell l7⟩ (fun hHeld => ?_)
      refine hTake (i := 0) rfl (by kernel_rfl) (by kernel_rfl) (by kernel_rfl) (by kernel_rfl) (by assumption) ?_
      apply Exists.intro
      refine ⟨fun _ _ _ h => h, fun wq hq => ?_, ?_⟩
      · go_light
        obtain ⟨p0, p1, p2, p3, p4, p5, p6, p7⟩ := hq
        go_simp
        try with_reducible rfl
        done
      try simp only [Act.put, List.setIfInBounds_toArray, List.set_cons_zero, List.set_cons_succ]
      refine hTake (i := 1) rfl (by kernel_rfl) (by kernel_rfl) (by kernel_rfl) (by kernel_rfl) (by assumption) ?_
      apply Exists.intro
      refine ⟨fun _ _ _ h => h, fun wq hq => ?_, ?_⟩
      · go_light
        obtain ⟨p0, p1, p2, p3, p4, p5, p6, p7⟩ := hq
        go_simp
        try with_reducible rfl
        done
      try simp only [Act.put, List.setIfInBounds_toArray, List.set_cons_zero, List.set_cons_succ]
      have hg3 : Gr wr wr.drew := (Gr.refl _).drew
      generalize wr.drew = W3 at *
      have HG3 := Lib.hid hg3
      have HS3 := Lib.hid hHeld
      clear hg3 hHeld l0 l1' l2 l3 l4 l5 l6 l7
      refine wpAnyH_ready (rs := [2]) (by kernel_rfl) (by simp) ?_
      refine AllReadyH.cons rfl (fun K hK => ?_) AllReadyH.nil
      go_simp
      go_at_call 33
      refine (HCP.out _ HG3.out).mono ?_
      rintro e w4 ⟨v4, rfl, hx4, g4⟩
      obtain ⟨A4, c4, hv4⟩ := hx4.form
      subst hv4
      obtain ⟨n4, hn4⟩ : ∃ n, n = (texts R1).length := ⟨_, rfl⟩
      rw [← hn4] at hx4 ⊢
      have HX4 : Hid (XN w4 B (S3.v ⟨A4, n4, c4⟩) (texts R1)) := Lib.hid (hx4.le (Nat.le_trans HB.out (Nat.le_trans HSE.out.gr.size HG3.out.size)))
      have HG4 := Lib.hid (HG3.out.trans g4)
      have HSA : Hid (LC w4 w.heap.size u1) := Lib.hid (HS3.out.gr g4)
      clear hx4 g4 hn4
      go_wp2_with fail
      refine hK.out _ _ HSA.out (fun _ => ?_)
      clear hK K
      try simp only [Act.put, List.setIfInBounds_toArray, List.set_cons_zero, List.set_cons_succ]
      refine wpAnyH_ready (rs := [3]) (by kernel_rfl) (by simp) ?_
      refine AllReadyH.cons rfl (fun K hK => ?_) AllReadyH.nil
      go_simp
      refine hK.out _ _ HSA.out (fun _ => ?_)
      clear hK K
      try simp only [Act.put, List.setIfInBounds_toArray, List.set_cons_zero, List.set_cons_succ]
      have hz4 := HSE.out.z.gr HG4.out
      have HZ4 := Lib.hid hz4
      obtain ⟨z0, z1, z2, z3, z4, z5, z6, z7, z8⟩ := hz4.zero
      obtain ⟨f0, f1, f2, f3, f4, f5, f6, f7, f8⟩ := hz4.fz
      have HSB : Hid (LC (putI w4 (w.heap.size + 1) u1 ⟨A4, n4, c4⟩) w.heap.size u1) := Lib.hid ((HSE.out.a.gr HG4.out).kpN (putI_kp _ _ _ _) (by omega)).lc
      clear hz4
      refine wpAnyH_ready (rs := [4]) (by kernel_rfl) (by simp) ?_
      refine AllReadyH.cons rfl (fun K hK => ?_) AllReadyH.nil
      go_simp
      refine hK.out _ (putI w4 (w.heap.size + 1) u1 ⟨A4, n4, c4⟩) HSB.out (fun _ => ?_)
      clear hK K z0 z1 z2 z3 z4 z5 z6 z7 z8 f0 f1 f2 f3 f4 f5 f6 f7 f8
      refine wpAnyH_done (by kernel_rfl) ?_ _
      try simp only [Act.put, List.setIfInBounds_toArray, List.set_cons_zero, List.set_cons_succ]
      obtain ⟨w5, hw5, hb5, hr5⟩ : ∃ x, x = putI w4 (w.heap.size + 1) u1 ⟨A4, n4, c4⟩ ∧ IBox x (w.heap.size + 1) u1 ⟨A4, n4, c4⟩ ∧ (LN x B u1 G.1 ∧ XN x B (S3.v ⟨A4, n4, c4⟩) G.2 ∧ Gr w x) := by
        refine ⟨_, rfl, putI_box HZ4.out, ?_⟩
        rw [← HIS.out]
        exact ⟨(HSE.out.ln.gr HG4.out).kpI HZ4.out (putI_kp _ _ _ _), HX4.out.kpI HZ4.out (putI_kp _ _ _ _), putI_gr (HSE.out.gr.trans HG4.out) (Nat.le_succ _) _ _⟩
      rw [← hw5]
      have HR5 := Lib.hid hr5
      obtain ⟨z0, z1, z2, z3, z4, z5, z6, z7, z8⟩ := hb5.all
      clear hw5 hr5 hb5 HSB HSA
      go_wp2_with fail
      exact bodyPost_ret (v := .agg (icells u1 ⟨A4, n4, c4⟩)) (by simp [results, Try.results23, go_sem, z0, z1, z2, z3, z4, z5, z6, z7, z8]) rfl ⟨u1, ⟨A4, n4, c4⟩, rfl, HR5.out⟩
    · have HIS : Hid (setN (R1.length + 1) l1 (texts R1) = G) := Lib.hid (by have := hse.is; rwa [if_pos rfl] at this)
      have HLI := Lib.hid (letIn_any u1 l1 A1 n1 c1 R1 w0 wr B hse.ln (Nat.le_trans HB.out hse.gr.size) (HG0.out.trans hse.gr) (by have := hse.sl; rw [← hn1] at this; exact this) hn1 hse.ops hse.fc hse.ft (by rw [hn1]; exact hse.le))
      obtain ⟨r, hr⟩ : ∃ r, r = letF l1 (texts R1) [] := ⟨_, rfl⟩
      rw [← hr] at HLI
      have HR := Lib.hid hr
      clear hse hst hn1 hnc1 h63 hr
      go_upto_region 3 with (fail)
      go_wp2_with fail
      refine HLI.out.mono ?_
      rintro e w4 ⟨u4, v4, R4, rfl, hln4, hx4, hto4, htx4, g4⟩
      obtain ⟨A4, c4, hv4, -, -⟩ := own_form hx4
      subst hv4
      obtain ⟨l4', W4', b4⟩ := r
      have ha4 := HSE.out.a.gr g4
      have HA4 := Lib.hid ha4
      obtain ⟨z0, z1, z2, z3, z4, z5, z6, z7⟩ := ha4.all
      obtain ⟨f0, f1, f2, f3, f4, f5, f6, f7⟩ := ha4.fz
      have hx5 := own_kpL hx4 ha4 (by decide) (putU_kp w4 w.heap.size u4)
      have hle4 : R4.length ≤ 64 := by
        have h1 := (letF_len (l := l1) (texts R1) []).2
        rw [← HR.out, ← htx4, texts_len, texts_len, List.length_nil] at h1
        have := HSE.out.le
        rw [HN1.out] at *
        omega
      have HS5 : Hid (SeR w0 w B G (.slice A4 R4.length c4) b4 u4 l4' R4 (putU w4 w.heap.size u4)) := Lib.hid (by
        refine ⟨putU_box ha4, (HSE.out.z.gr g4).kpN (putU_kp _ _ _) (by omega), hln4.kpL ha4 (putU_kp _ _ _), own_sl hx5, hto4, hle4, ?_, fun r hr => ?_, ?_, putU_gr (HSE.out.gr.trans g4) (Nat.le_refl _) _⟩
        · have h1 := letF_fit HSE.out.fc (texts R1) [] (fun t ht => by
            obtain ⟨r, hr, rfl⟩ := List.mem_map.1 ht
            exact HSE.out.ft r hr)
          rw [← HR.out] at h1
          exact h1
        · have h1 : r.1 ∈ texts R4 := List.mem_map_of_mem hr
          rw [htx4, HR.out] at h1
          rcases letF_mem _ _ _ h1 with h1 | h1
          · cases h1
          · obtain ⟨r', hr', e⟩ := List.mem_map.1 h1
            rw [← e]
            exact HSE.out.ft r' hr'
        · rw [← HIS.out]
          rcases b4 with _ | _
          · rw [if_neg (by simp), setN_done HR.out.symm, htx4]
          · rw [if_pos rfl, setN_more HR.out.symm (by rw [texts_len]; omega)]
            have e4 : texts R4 = W4' := htx4
            rw [← e4, texts_len])
      have HMS : Hid (mesS (.slice A4 R4.length c4) (.bool b4) < mesS (.slice A1 n1 c1) (.bool true)) := Lib.hid (by
        rcases b4 with _ | _
        · exact Nat.succ_pos _
        · have h1 := (letF_len (l := l1) (texts R1) []).1 (by rw [← HR.out])
          rw [← HR.out, ← htx4, texts_len, texts_len, List.length_nil] at h1
          show R4.length + 1 < n1 + 1
          rw [HN1.out]
          omega)
      clear ha4 hln4 hx4 hto4 htx4 g4 hx5 hle4
      try dsimp only
      obtain ⟨n4, hn4⟩ : ∃ n, n = R4.length := ⟨_, rfl⟩
      rw [← hn4] at HS5 HMS ⊢
      clear hn4
      go_wp2_with fail
      go_roundw
      case measure => exact HMS.out
      case rel => exact ⟨b4, rfl, Lib.hid ⟨u4, l4', R4, HS5.out⟩⟩
end Go.Proofs.Ytjpiemgpbakfaaa
