/- Texts CaB, CaC, joined. -/
import Derived.Test.YtjpiemgpbakfaaaG17
import Derived.Test.YtjpiemgpbakfaaaG24
import Derived.Test.YtjpiemgpbakfaaaG21
/- Walks over package cast: copies. -/
namespace Go.Proofs.Ytjpiemgpbakfaaa
open Go.RowKit Go.Joins
set_option linter.unusedSimpArgs false
set_option linter.unusedVariables false

/-- What copied transactions must be. -/
def FitO (t : TX) : Prop := t.ops.length * 48 ≤ 140737488355328 ∧ ∀ o ∈ t.ops, o.key.size ≤ 281474976710656 ∧ o.elem.size ≤ 281474976710656
/-- What the rounds of copies leave. -/
structure CwR (w : World) (L : List TX) (k : Nat) (s : Value) (R : List TR) (wr : World) : Prop where
  tx : texts R = L.take k
  row : wr.ownsRow w.heap.size 38 12 s k (trs R)
  ops : TOn wr w.heap.size R
  gr : Gr w wr
theorem CwR.next {w wr w' : World} {L : List TX} {k : Nat} {s : Value} {R : List TR} (h : CwR w L k s R wr) (g : Gr wr w') : CwR w L k s R w' := ⟨h.tx, own_gr h.row g, h.ops.mid (Mid.of_gr g), h.gr.trans g⟩
theorem CwR.more {w w8 w9 : World} {L : List TX} {k : Nat} {A A' : Option Addr} {c c' : Nat} {R : List TR} {t : TX} {s : S3} (h : CwR w L k (.slice A k c) R w8) (ht : L[k]? = some t) (hs : TOO w8 w.heap.size s.v t.ops)
    (kp : w8.grownBy w9 (Value.slice A k c).ownBlock) (hown : w9.ownsRow w.heap.size 38 12 (.slice A' (k + 1) c') (k + 1) (trs (R ++ [(t, s)]))) : CwR w L (k + 1) (.slice A' (k + 1) c') (R ++ [(t, s)]) w9 := by
  refine ⟨?_, hown, fun r hr => ?_, h.gr.grown h.row (Nat.le_refl _) kp⟩
  · unfold texts
    rw [List.map_append, show R.map (·.1) = L.take k from h.tx, List.take_add_one, ht]
    rfl
  · rcases List.mem_append.1 hr with hr | hr
    · exact TOO.grown (h.ops r hr) h.row (Nat.le_refl _) kp
    · simp only [List.mem_singleton] at hr
      subst hr
      exact TOO.grown hs h.row (Nat.le_refl _) kp

set_option maxRecDepth 100000 in
set_option maxHeartbeats 4000000 in
theorem wcopies_any (v : Value) (L : List TX) (w : World) (h : XV w v L) (hf : ∀ t ∈ L, FitO t) (hlen : L.length * 112 ≤ 140737488355328) :
    Calls Try.prog 33 #[v] w fun e w' => ∃ u, e = .returned u ∧ XN w' w.heap.size u L ∧ Gr w w' := by
  have HV := Lib.hid h
  obtain ⟨A, c, rfl⟩ := xv_form h
  have HF := Lib.hid hf
  obtain ⟨n, hn⟩ : ∃ n, n = L.length := ⟨_, rfl⟩
  rw [← hn] at hlen HV ⊢
  have HN := Lib.hid hn
  clear h hn hf
  go_enter Try.func33, Try.ntmps33
  go_wp2_with fail
  go_loopw [3, 8] (fun s i wr => ∃ k : Nat, k ≤ n ∧ i = .int .i64 k ∧ Hid (∃ R, CwR w L k s R wr)) (fun _ i _ => n - (intOf i).toNat)
  case atStart => exact ⟨0, Nat.zero_le _, rfl, Lib.hid ⟨[], ⟨rfl, World.ownsRow_nil _ _ _ _, fun _ hr => (by cases hr), Gr.refl _⟩⟩⟩
  case round =>
    obtain ⟨k, hk, rfl, hst⟩ := hrel
    rename World => wr
    have hk0 : (0 : Int) ≤ (k : Int) := Int.natCast_nonneg _
    obtain ⟨R, hcw⟩ := hst.out
    by_cases hlt : k < n
    · have hkn : (k : Int) < (n : Int) := by omega
      have hkl : k < L.length := by rw [← HN.out]; exact hlt
      obtain ⟨A', c', hv, h1, h2, h3⟩ := HV.out
      injection hv with e1 e2 e3
      obtain ⟨b, off, ha, xv, hx0, hx⟩ := h3 k hkl
      rw [← e1] at ha
      subst ha
      obtain ⟨t, hte⟩ : ∃ t, t = L[k] := ⟨_, rfl⟩
      rw [← hte] at hx0 hx
      obtain ⟨Ax, cx, rfl⟩ := tov_form hx0
      have HAT : Hid (L[k]? = some t) := Lib.hid (by rw [hte]; exact List.getElem?_eq_getElem hkl)
      have hfit := HF.out t (by rw [hte]; exact List.getElem_mem hkl)
      obtain ⟨W4, hW4, hg4, hx4⟩ := xbox wr t (.slice Ax t.ops.length cx)
      have HCP := Lib.hid (copy8_any t (.slice Ax t.ops.length cx) W4 ((hx0.gr hcw.gr).gr hg4) hfit.1 hfit.2)
      have hxr := hx.gr hcw.gr
      obtain ⟨nx, hnx⟩ : ∃ n, n = t.ops.length := ⟨_, rfl⟩
      rw [← hnx] at hxr HCP hx4 hW4
      have HNX := Lib.hid hnx
      obtain ⟨q0, q1, q2, q3, q4, q5, q6, q7, q8, q9, q10, q11⟩ := hxr
      obtain ⟨A5, c5, rfl, -, -⟩ := own_form hcw.row
      have HCW := Lib.hid (hcw.next hg4)
      have HB4 : Hid (w.heap.size ≤ W4.heap.size) := Lib.hid (HCW.out.gr.size)
      have hln : (k + 1) * 112 ≤ 140737488355328 := by omega
      have HLN := Lib.hid hln
      have hz : (wr.alloc (.cells zeroX 38)).heap[wr.heap.size]? = some (.cells zeroX 38 (0, 0)) := heap_alloc _ _ _
      have z0 : (wr.alloc (.cells zeroX 38)).cell? ⟨wr.heap.size, 0, none⟩ = some (.int .i64 0) := by rw [cell_of_block hz]; rfl
      have k0 := unfrozen_of_block hz 0
      have z1 : (wr.alloc (.cells zeroX 38)).cell? ⟨wr.heap.size, 1, none⟩ = some (.int .u64 0) := by rw [cell_of_block hz]; rfl
      have k1 := unfrozen_of_block hz 1
      have z2 : (wr.alloc (.cells zeroX 38)).cell? ⟨wr.heap.size, 2, none⟩ = some (.int .u64 0) := by rw [cell_of_block hz]; rfl
      have k2 := unfrozen_of_block hz 2
      have z3 : (wr.alloc (.cells zeroX 38)).cell? ⟨wr.heap.size, 3, none⟩ = some (.int .u64 0) := by rw [cell_of_block hz]; rfl
      have k3 := unfrozen_of_block hz 3
      have z4 : (wr.alloc (.cells zeroX 38)).cell? ⟨wr.heap.size, 4, none⟩ = some (.int .u64 0) := by rw [cell_of_block hz]; rfl
      have k4 := unfrozen_of_block hz 4
      have z5 : (wr.alloc (.cells zeroX 38)).cell? ⟨wr.heap.size, 5, none⟩ = some (.int .u64 0) := by rw [cell_of_block hz]; rfl
      have k5 := unfrozen_of_block hz 5
      have z6 : (wr.alloc (.cells zeroX 38)).cell? ⟨wr.heap.size, 6, none⟩ = some (.int .u64 0) := by rw [cell_of_block hz]; rfl
      have k6 := unfrozen_of_block hz 6
      have z7 : (wr.alloc (.cells zeroX 38)).cell? ⟨wr.heap.size, 7, none⟩ = some (.int .u64 0) := by rw [cell_of_block hz]; rfl
      have k7 := unfrozen_of_block hz 7
      have z8 : (wr.alloc (.cells zeroX 38)).cell? ⟨wr.heap.size, 8, none⟩ = some (.int .u64 0) := by rw [cell_of_block hz]; rfl
      have k8 := unfrozen_of_block hz 8
      have z9 : (wr.alloc (.cells zeroX 38)).cell? ⟨wr.heap.size, 9, none⟩ = some (.int .u64 0) := by rw [cell_of_block hz]; rfl
      have k9 := unfrozen_of_block hz 9
      have z10 : (wr.alloc (.cells zeroX 38)).cell? ⟨wr.heap.size, 10, none⟩ = some (.int .u64 0) := by rw [cell_of_block hz]; rfl
      have k10 := unfrozen_of_block hz 10
      have z11 : (wr.alloc (.cells zeroX 38)).cell? ⟨wr.heap.size, 11, none⟩ = some (.slice none 0 0) := by rw [cell_of_block hz]; rfl
      have k11 := unfrozen_of_block hz 11
      clear h1 h2 h3 e1 e2 e3 hkl hst hx0 hx hfit hte hnx hcw hg4 hln
      go_upto_region 5 with (fail)
      clear z0 k0 z1 k1 z2 k2 z3 k3 z4 k4 z5 k5 z6 k6 z7 k7 z8 k8 z9 k9 z10 k10 z11 k11 hz q0 q1 q2 q3 q4 q5 q6 q7 q8 q9 q10 q11
      change Code.wp Try.prog _ _ _ (wr.alloc (.cells (tcs t (.slice Ax nx cx)) 38))
      rw [← hW4]
      clear hW4
      obtain ⟨x0, x1, x2, x3, x4, x5, x6, x7, x8, x9, x10, x11⟩ := hx4
      go_wp2_with fail
      refine HCP.out.mono ?_
      rintro e w6 ⟨u6, rfl, ho6, g6⟩
      obtain ⟨A6, c6, rfl, -, -⟩ := ho6.form
      rw [← HNX.out] at ho6 ⊢
      obtain ⟨W8, hW8, hg8, hx8⟩ := xbox w6 t (.slice A6 nx c6)
      have HX8 := Lib.hid hx8
      have HCW8 := Lib.hid ((HCW.out.next g6).next hg8)
      have HO8 : Hid (TOO W8 w.heap.size (S3.v ⟨A6, nx, c6⟩) t.ops) := Lib.hid (TOO.gr (TOO.le ho6 HB4.out) hg8)
      have HB8 : Hid (w.heap.size ≤ W8.heap.size) := Lib.hid HCW8.out.gr.size
      clear x0 x1 x2 x3 x4 x5 x6 x7 x8 x9 x10 x11 hx8 hg8 ho6 g6
      go_wp2_with (at_builtin; rw [← hW8]; refine wpList_push_tx rfl (.tmp 12) (.tmp 15) rfl w.heap.size (.slice A5 k c5) k w6.heap.size R (t, ⟨A6, nx, c6⟩) rfl rfl HCW8.out.row HX8.out HLN.out HB8.out ?_; intro A9 c9 w9 hown9 kp9 _; have HW9 := Lib.hid (HCW8.out.more HAT.out HO8.out kp9 hown9); clear hown9 kp9)
      go_roundw
      case measure => simp [intOf]; omega
      case rel => exact ⟨k + 1, by omega, by go_num, Lib.hid ⟨_, HW9.out⟩⟩
    · obtain rfl : k = n := by omega
      have HCW := Lib.hid hcw
      clear hcw hst
      go_wp2_with fail
      go_ret
      refine ⟨_, rfl, ⟨R, ?_, ?_, HCW.out.ops⟩, HCW.out.gr⟩
      · rw [HCW.out.tx, HN.out, List.take_length]
      · have h1 := HCW.out.row
        have h2 : R.length = k := by rw [← texts_len, HCW.out.tx, List.length_take, ← HN.out, Nat.min_self]
        unfold XO
        rw [h2]; exact h1
end Go.Proofs.Ytjpiemgpbakfaaa
/- Walks over package cast: letIn. -/
namespace Go.Proofs.Ytjpiemgpbakfaaa
open Go.RowKit Go.Joins
set_option linter.unusedSimpArgs false
set_option linter.unusedVariables false

def FitT (t : TX) : Prop := t.seq < 18446744073709551616 ∧ FitO t
/-- What letIn answers: logs, what waits on, has one come in. -/
def letF (l : LG) : List TX → List TX → LG × List TX × Bool
  | [], st => (l, st, false)
  | t :: r, st => if (addR l t).1 = 0 ∧ cntL l < cntL (addR l t).2 then ((addR l t).2, st ++ r, true) else if (addR l t).1 = 90 then letF l r (st ++ [t]) else letF l r st
theorem letF_in {l : LG} {t : TX} {r st : List TX} (h : (addR l t).1 = 0) (h2 : cntL l < cntL (addR l t).2) : letF l (t :: r) st = ((addR l t).2, st ++ r, true) := if_pos ⟨h, h2⟩
theorem letF_old {l : LG} {t : TX} {r st : List TX} (h : (addR l t).1 = 0) (h2 : ¬ cntL l < cntL (addR l t).2) : letF l (t :: r) st = letF l r st := by
  show (if _ then _ else _) = _
  rw [if_neg (fun q => h2 q.2), if_neg (by omega)]
theorem letF_gap {l : LG} {t : TX} {r st : List TX} (h : (addR l t).1 = 90) : letF l (t :: r) st = letF l r (st ++ [t]) := by
  show (if _ then _ else _) = _
  rw [if_neg (fun q => by omega), if_pos h]
theorem letF_bad {l : LG} {t : TX} {r st : List TX} (h : ¬ (addR l t).1 = 0) (h2 : ¬ (addR l t).1 = 90) : letF l (t :: r) st = letF l r st := by
  show (if _ then _ else _) = _
  rw [if_neg (fun q => h q.1), if_neg h2]
theorem addR_fitC {l : LG} {t : TX} (hf : FitC l) (ht : FitO t) : FitC (addR l t).2 := by
  have hn : FitC nilL := ⟨fun i hi => by show 0 * 112 ≤ _; omega, fun i x hi hx => by cases hx⟩
  unfold addR
  split
  · split
    · split
      · split
        · exact hf
        · exact hn
      · exact hn
    · split
      · split
        · next h => exact fitC_add hf h ht
        · exact hn
      · exact hn
  · exact hn
theorem FitC.len' {l : LG} (h : FitC l) : ∀ i, i < 8 → (l i).length * 112 ≤ 140737488355328 := h.len
theorem LBox.fz {w : World} {b : Nat} {u : Nat → S3} (h : LBox w b u) : w.frozen? ⟨b, 0, none⟩ = false ∧ w.frozen? ⟨b, 1, none⟩ = false ∧ w.frozen? ⟨b, 2, none⟩ = false ∧ w.frozen? ⟨b, 3, none⟩ = false ∧ w.frozen? ⟨b, 4, none⟩ = false ∧ w.frozen? ⟨b, 5, none⟩ = false ∧ w.frozen? ⟨b, 6, none⟩ = false ∧ w.frozen? ⟨b, 7, none⟩ = false :=
  ⟨unfrozen_of_block h.box 0, unfrozen_of_block h.box 1, unfrozen_of_block h.box 2, unfrozen_of_block h.box 3, unfrozen_of_block h.box 4, unfrozen_of_block h.box 5, unfrozen_of_block h.box 6, unfrozen_of_block h.box 7⟩
/-- Logs' eight cells put into a box of logs. -/
abbrev putU (w : World) (b : Nat) (u : Nat → S3) : World := putCells w b 0 (lcells u).toList
theorem putU_box {w : World} {b : Nat} {u0 u : Nat → S3} (h : LBox w b u0) : LBox (putU w b u) b u := ⟨putCells_full h.box rfl⟩
theorem putU_kp (w : World) (b : Nat) (u : Nat → S3) : Kp (some b) w (putU w b u) := by
  have one : ∀ (cs : List Value) (o : Nat) (w : World), Kp (some b) w (putCells w b o cs) := fun cs => by
    induction cs with
    | nil => exact fun o w => Kp.refl _ _
    | cons x r ih => exact fun o w => ((Kp.refl (some b) w).set (.inr rfl) o x).trans (ih (o + 1) _)
  exact one _ _ _
theorem putU_gr {w0 w : World} {b : Nat} (h : Gr w0 w) (hb : w0.heap.size ≤ b) (u : Nat → S3) : Gr w0 (putU w b u) := Gr.putCells hb _ _ h
/-- A row of transactions lies apart from a box of logs. -/
theorem own_kpL {w w' : World} {B b : Nat} {size n : Nat} {t : TypeId} {v : Value} {xs : List Value} {u : Nat → S3} (h : w.ownsRow B t size v n xs) (hb : LBox w b u) (ht : t ≠ 24) (k : Kp (some b) w w') : w'.ownsRow B t size v n xs := by
  refine World.ownsRow.kept h k (.inr fun e => ?_)
  rcases h.2 with ⟨rfl, _⟩ | ⟨g, cap, cur, rfl, _, hg, _⟩
  · simp [Value.ownBlock] at e
  · have e1 : g = b := by simpa [Value.ownBlock] using e
    subst e1
    rw [hb.box] at hg
    injection hg with hg
    injection hg with _ hg
    exact ht hg.symm
theorem LN.kpL {w w' : World} {B b : Nat} {v : Nat → S3} {l : LG} {u : Nat → S3} (h : LN w B v l) (hb : LBox w b u) (k : Kp (some b) w w') : LN w' B v l := fun i hi => by
  obtain ⟨R, h1, h2, h3⟩ := h i hi
  exact ⟨R, h1, own_kpL h2 hb (by decide) k, fun r hr => own_kpL (h3 r hr) hb (by decide) k⟩
theorem LN.gr {w w' : World} {B : Nat} {u : Nat → S3} {l : LG} (h : LN w B u l) (g : Gr w w') : LN w' B u l := h.mid (Mid.of_gr g)
theorem LN.kpB {w w' : World} {B : Nat} {u : Nat → S3} {l : LG} {r : Option Nat} (h : LN w B u l) (k : Kp r w w') (hr : ∀ g, r = some g → g < B) : LN w' B u l :=
  h.mid ⟨k.size, fun x hx hl => k.block x hl (fun e => by have := hr x e.symm; omega)⟩
theorem LBox.kpN {w w' : World} {b g : Nat} {u : Nat → S3} (h : LBox w b u) (k : Kp (some g) w w') (hb : b ≠ g) : LBox w' b u := h.keep (k.block b h.lt (fun e => hb (by injection e)))
theorem LBox.grownX {w w' : World} {b B size n : Nat} {t : TypeId} {v : Value} {xs : List Value} {z : Nat → S3} (hb : LBox w b z) (h : w.ownsRow B t size v n xs) (ht : t ≠ 24) (k : w.grownBy w' v.ownBlock) : LBox w' b z := by
  refine hb.keep (k.block b hb.lt (fun e => ?_))
  rcases h.2 with ⟨rfl, _⟩ | ⟨g, cap, cur, rfl, _, hg, _⟩
  · cases e
  · have e1 : b = g := by simpa [Value.ownBlock] using e
    subst e1
    rw [hb.box] at hg
    injection hg with hg
    injection hg with _ hg
    exact absurd hg.symm ht
theorem boxesLi (u : Nat → S3) (w : World) : ∃ W, W = (w.alloc (.cells (lcells u) 24)).alloc (.cells zlc 24) ∧ Gr w W ∧ W.heap.size = w.heap.size + 2 ∧
    LBox W w.heap.size u ∧ LBox W (w.heap.size + 1) Z3 := by
  refine ⟨_, rfl, ((Gr.refl w).alloc _).alloc _, by simp, ⟨?_⟩, ⟨?_⟩⟩
  · simp only [World.alloc, Array.getElem?_push, Array.size_push]; simp
  · have h := heap_alloc (w.alloc (.cells (lcells u) 24)) zlc 24
    rw [show (w.alloc (.cells (lcells u) 24)).heap.size = w.heap.size + 1 by simp] at h
    exact h
/-- What letIn's rounds leave. -/
structure LiR (w0 w : World) (u : Nat → S3) (l : LG) (T : List TX) (k : Nat) (s : Value) (Rs : List TR) (wr : World) : Prop where
  a : LBox wr w.heap.size u
  z : LBox wr (w.heap.size + 1) Z3
  row : wr.ownsRow w.heap.size 38 12 s Rs.length (trs Rs)
  ops : TOs w0 Rs
  le : Rs.length ≤ k
  is : letF l T [] = letF l (T.drop k) (texts Rs)
  gr : Gr w wr
theorem LiR.next {w0 w wr w' : World} {u : Nat → S3} {l : LG} {T : List TX} {k : Nat} {s : Value} {Rs : List TR} (h : LiR w0 w u l T k s Rs wr) (g : Gr wr w') : LiR w0 w u l T k s Rs w' :=
  ⟨h.a.gr g, h.z.gr g, own_gr h.row g, h.ops, h.le, h.is, h.gr.trans g⟩
theorem LiR.skip {w0 w wr : World} {u : Nat → S3} {l : LG} {T : List TX} {k : Nat} {s : Value} {Rs : List TR} (h : LiR w0 w u l T k s Rs wr) {t : TX} (ht : T[k]? = some t) (e : ∀ r st, letF l (t :: r) st = letF l r st) : LiR w0 w u l T (k + 1) s Rs wr := by
  refine ⟨h.a, h.z, h.row, h.ops, Nat.le_succ_of_le h.le, ?_, h.gr⟩
  obtain ⟨hk, rfl⟩ := List.getElem?_eq_some_iff.1 ht
  rw [h.is, List.drop_eq_getElem_cons hk, e]
theorem LiR.more {w0 w w8 w9 : World} {u : Nat → S3} {l : LG} {T : List TX} {k n : Nat} {A A' : Option Addr} {c c' : Nat} {Rs : List TR} {t : TX} {s : S3} (h : LiR w0 w u l T k (.slice A n c) Rs w8) (hn : n = Rs.length) (ht : T[k]? = some t) (he : (addR l t).1 = 90) (hs : TOV w0 s.v t.ops)
    (kp : w8.grownBy w9 (Value.slice A n c).ownBlock) (hown : w9.ownsRow w.heap.size 38 12 (.slice A' (n + 1) c') (n + 1) (trs (Rs ++ [(t, s)]))) : LiR w0 w u l T (k + 1) (.slice A' (n + 1) c') (Rs ++ [(t, s)]) w9 := by
  have hrow := h.row
  rw [← hn] at hrow
  have hlen : (Rs ++ [(t, s)]).length = n + 1 := by rw [List.length_append, hn]; rfl
  have hx : ∀ b, (∃ z, LBox w8 b z) → w9.heap[b]? = w8.heap[b]? := fun b ⟨z, hb⟩ => kp.block b hb.lt (fun e => by
    rcases hrow.2 with ⟨h0, _⟩ | ⟨g, cap, cur, h0, _, hg, _⟩
    · injection h0 with h0
      rw [h0] at e
      cases e
    · rw [h0] at e
      have e1 : b = g := by simpa [Value.ownBlock] using e
      subst e1
      rw [hb.box] at hg
      injection hg with hg
      injection hg with _ hg
      exact absurd hg (by decide))
  refine ⟨h.a.keep (hx _ ⟨_, h.a⟩), h.z.keep (hx _ ⟨_, h.z⟩), by rw [hlen]; exact hown, fun r hr => ?_, by have := h.le; omega, ?_, h.gr.grown hrow (Nat.le_refl _) kp⟩
  · rcases List.mem_append.1 hr with hr | hr
    · exact h.ops r hr
    · simp only [List.mem_singleton] at hr
      subst hr
      exact hs
  · obtain ⟨hk, rfl⟩ := List.getElem?_eq_some_iff.1 ht
    rw [h.is, List.drop_eq_getElem_cons hk, letF_gap he]
    unfold texts
    rw [List.map_append]
    rfl
theorem sliceX_from (n c k : Nat) (hk : k ≤ n) (A : Option Addr) : ∀ W : World, (Instr.slice 22 (.slice A n c) (some (.int .i64 (k : Int))) none none).run Try.prog W = .ok (sliced A k n c 12) W := fun W => slice_from_g 22 12 Try.underlying22 (fun W => by show _ = _; kernel_rfl) n c k hk A W
/-- A row's end. -/
theorem sl_drop {w : World} {A : Option Addr} {n c : Nat} {R : List TR} (h : SL w 12 (.slice A n c) n (trs R)) (hn : n = R.length) {k : Nat} (hk : k ≤ n) : ∃ A' c', sliced A k n c 12 = .slice A' (n - k) c' ∧ SL w 12 (.slice A' (n - k) c') (n - k) (trs (R.drop k)) := by
  obtain ⟨A0, c0, hv, h1, ⟨h2, h3⟩, h4, h5⟩ := h
  injection hv with e1 e2 e3
  subst e1 e3
  have hlen : (trs (R.drop k)).length = (n - k) * 12 := by rw [trs_len, List.length_drop, hn]
  have hat : ∀ j, (trs (R.drop k))[j]? = (trs R)[k * 12 + j]? := fun j => by
    show ((R.drop k).flatMap trcells)[j]? = _
    rw [← rows_drop trcells 12 trcells_len R k, List.getElem?_drop]
    rfl
  cases A with
  | none =>
    obtain rfl : c = 0 := h3 rfl
    obtain rfl : n = 0 := by omega
    obtain rfl : k = 0 := by omega
    refine ⟨none, 0, by simp [sliced], none, 0, rfl, Nat.le_refl _, ⟨by omega, fun _ => rfl⟩, hlen, fun j u hj => ?_⟩
    have := (List.getElem?_eq_some_iff.1 hj).1
    rw [hlen] at this
    omega
  | some a =>
    have hc0 : ∀ u, 0 < n → ∃ b off, a = ⟨b, off, none⟩ := fun _ h0 => by
      obtain ⟨b, off, ha, _⟩ := h5 0 ((trs R)[0]'(by rw [h4]; omega)) (List.getElem?_eq_getElem _)
      injection ha with ha
      exact ⟨b, off, ha⟩
    by_cases hkc : k = c
    · refine ⟨some a, c - k, by unfold sliced; rw [if_pos hkc.symm], some a, c - k, rfl, by omega, ⟨by unfold maxLen at h2 ⊢; omega, fun e => by cases e⟩, hlen, fun j u hj => ?_⟩
      have := (List.getElem?_eq_some_iff.1 hj).1
      rw [hlen] at this
      omega
    · refine ⟨some (a.add (k * 12)), c - k, by unfold sliced; rw [if_neg (fun e => hkc e.symm)]; rfl, some (a.add (k * 12)), c - k, rfl, by omega, ⟨by unfold maxLen at h2 ⊢; omega, fun e => by cases e⟩, hlen, fun j u hj => ?_⟩
      have hj2 : (trs R)[k * 12 + j]? = some u := by rw [← hat]; exact hj
      obtain ⟨b, off, ha, hc⟩ := h5 _ u hj2
      injection ha with ha
      subst ha
      refine ⟨b, off + k * 12, by rw [Go.WideShapes.add_plain], ?_⟩
      rw [Nat.add_assoc]
      exact hc
end Go.Proofs.Ytjpiemgpbakfaaa
