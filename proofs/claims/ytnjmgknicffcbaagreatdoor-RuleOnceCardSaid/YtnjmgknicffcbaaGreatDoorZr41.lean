/- Walks: what a key of a sight is. Walks: rule's among. -/
import Derived.Test.YtnjmgknicffcbaaGreatDoorZr40
import Derived.Test.YtnjmgknicffcbaaGreatDoorZr35
import Derived.Test.YtnjmgknicffcbaaGreatDoorZr23
import Derived.Test.YtnjmgknicffcbaaGreatDoorZr20
import Derived.Test.YtnjmgknicffcbaaGreatDoorZr21
import Derived.Test.YtnjmgknicffcbaaGreatDoorZr26
namespace Go.Proofs.YtnjmgknicffcbaaGreatDoor
open Go.RowKit Go.Joins
set_option linter.unusedSimpArgs false
set_option linter.unusedVariables false

/-- What a value is in memory: its elements are a row that the call owns. -/
def RV3 (w : World) (B : Nat) (x : Value) (r : VR) : Prop := ∃ ve, x = .agg #[.int .i64 r.n, ve, .bool r.on] ∧ SO w B ve r.e
theorem RV3.gr {w w' : World} {B : Nat} {x : Value} {r : VR} (h : RV3 w B x r) (g : Gr w w') : RV3 w' B x r := by
  obtain ⟨ve, hx, hs⟩ := h
  exact ⟨ve, hx, hs.gr g⟩
/-- The map tells what keys are. -/
def Told (L : List RU) (l : LG) (v : Nat → Nat) (B b n : Nat) (w : World) : Prop := ∃ F, MapS w b n F ∧ ∀ key x, F key = some x → RV3 w B x (valK L l v key)
theorem Told.gr {L : List RU} {l : LG} {v : Nat → Nat} {B b n : Nat} {w w' : World} (h : Told L l v B b n w) (g : Gr w w') : Told L l v B b n w' := by
  obtain ⟨F, h1, h2⟩ := h
  exact ⟨F, h1.gr g, fun key x hx => (h2 key x hx).gr g⟩
theorem Told.lt {L : List RU} {l : LG} {v : Nat → Nat} {B b n : Nat} {w : World} (h : Told L l v B b n w) : b < w.heap.size := by
  obtain ⟨F, h1, _⟩ := h
  exact h1.lt
theorem Told.made {L : List RU} {l : LG} {v : Nat → Nat} {B : Nat} (w : World) : Told L l v B w.heap.size 0 (w.alloc (.map #[] 0)) := ⟨_, MapS.made w, fun key x h => by cases h⟩
/-- A value stays where the map is written. -/
theorem RV3.kp {w w' : World} {B b n : Nat} {x : Value} {r : VR} {F : ByteArray → Option Value} (h : RV3 w B x r) (hm : MapS w b n F) (k : Kp (some b) w w') : RV3 w' B x r := by
  obtain ⟨ve, hx, hs⟩ := h
  refine ⟨ve, hx, World.ownsRow.kept hs k (.inr fun e => hm.ne hs e.symm)⟩
theorem RV3.kpT {w w' : World} {B b n : Nat} {x : Value} {r : VR} {L : List RU} {l : LG} {v : Nat → Nat} (h : RV3 w B x r) (hm : Told L l v B b n w) (k : Kp (some b) w w') : RV3 w' B x r := by
  obtain ⟨F, h1, _⟩ := hm
  exact h.kp h1 k
theorem zeroVal (w : World) : (zeroValue 95).run Tryz.prog w = .ok (.agg (valv 0)) w := by kernel_rfl
/-- A box of a value, filled. -/
theorem set3_box {w : World} {p : Nat} {x y z x' y' z' : Value} {ty : TypeId} (h : w.heap[p]? = some (.cells #[x', y', z'] ty (0, 0))) : (((w.setCell ⟨p, 0, none⟩ x).setCell ⟨p, 1, none⟩ y).setCell ⟨p, 2, none⟩ z).heap[p]? = some (.cells #[x, y, z] ty (0, 0)) :=
  putCells_full (c := #[x, y, z]) h rfl
theorem gr_set3 {w0 w : World} {p : Nat} {x y z : Value} (h : Gr w0 w) (hp : w0.heap.size ≤ p) : Gr w0 (((w.setCell ⟨p, 0, none⟩ x).setCell ⟨p, 1, none⟩ y).setCell ⟨p, 2, none⟩ z) :=
  ((h.setCell hp _).setCell hp _).setCell hp _
structure SvQ (L : List RU) (l : LG) (v : Nat → Nat) (b n : Nat) (key : ByteArray) (w0 w : World) (x : Value) (w' : World) : Prop where
  val : RV3 w' w0.heap.size x (valK L l v key)
  told : ∃ n', n' ≤ n + 1 ∧ Told L l v w0.heap.size b n' w'
  gr : Gr w0 w'
  kp : Kp (some b) w w'
set_option maxRecDepth 100000 in
set_option maxHeartbeats 8000000 in
theorem sval_any (L : List RU) (l : LG) (r : S3) (u : Nat → S3) (v : Nat → Nat) (b n : Nat) (key : ByteArray) (w0 w : World) (hu : UV w0 (.slice r.a r.n r.c) L) (hl : LV w0 u l) (hq : FitQ l) (hz : checkE l = 0) (hc : closedB l v = true)
    (hst : ∀ x ∈ L, wrap64 x.start = x.start) (g0 : Gr w0 w) (hb : w0.heap.size ≤ b) (ht : Told L l v w0.heap.size b n w) (hn : n < maxLen) (hks : key.size ≤ maxLen) :
    Calls Tryz.prog 97 #[.agg (sgc r u v b), .string key] w fun e w' => ∃ x, e = .returned x ∧ SvQ L l v b n key w0 w x w' := by
  have hbw := ht.lt
  obtain ⟨W1, hW1, hg1, hb1, hsz1⟩ := sgbox w r u v b
  obtain ⟨W, hW, hgW, hz0, hszW⟩ : ∃ W, W = W1.alloc (.cells (valv 0) 95) ∧ Gr W1 W ∧ W.heap[w.heap.size + 1]? = some (.cells (valv 0) 95 (0, 0)) ∧ W.heap.size = w.heap.size + 1 + 1 := by
    refine ⟨_, rfl, (Gr.refl _).alloc _, ?_, ?_⟩
    · have := heap_alloc W1 (valv 0) 95
      rw [hsz1] at this
      exact this
    · simp [hsz1]
  have HB := Lib.hid (hb1.gr hgW)
  have HZ := Lib.hid hz0
  have HG := Lib.hid (hg1.trans hgW)
  have HT := Lib.hid (ht.gr HG.out)
  have HSZ := Lib.hid hszW
  have HBW := Lib.hid hbw
  have HB0 := Lib.hid hb
  have HG0 := Lib.hid g0
  have HQ := Lib.hid (And.intro hn hks)
  have HK : Hid (1 ≤ (ruleR L key).k ∨ True) := Lib.hid (.inr trivial)
  have HRO := Lib.hid (fun w1 (g : Gr w0 w1) => ruleOf_any (.slice r.a r.n r.c) L key w1 (hu.gr g))
  have hws : wrap64 (ruleR L key).start = (ruleR L key).start := by
    cases e : fIdx L key with
    | none => rw [ruleR_none e]; show wrap64 0 = 0; unfold wrap64; omega
    | some j =>
      obtain ⟨hj, _⟩ := fIdx_some.1 e
      rw [ruleR_some e hj]
      exact hst _ (List.getElem_mem hj)
  have HVA := Lib.hid (fun w1 (g : Gr w0 w1) => value_any (ruleR L key).k (ruleR L key).start u l v key w1 (hl.gr g) hq hws)
  obtain ⟨rr, hrr⟩ : ∃ x, x = ruleR L key := ⟨_, rfl⟩
  have HVK : Hid (valV rr.k rr.start l v key = valK L l v key) := Lib.hid (by rw [hrr]; rfl)
  rw [← hrr] at HRO HVA hws
  clear hrr
  obtain ⟨rk, rkey, roth, rmin, rst⟩ := rr
  simp only at HVA HVK hws
  obtain ⟨F, hm, hF⟩ := HT.out
  have HM := Lib.hid hm
  have HF := Lib.hid hF
  have hcell := (HB.out.all).2.2.2.2.2.2.2.2.2.2.2.2.2.2.2.2.2
  obtain ⟨rn, ru, rc⟩ := r
  rw [hW1] at hW
  clear hb1 hg1 hgW hz0 hszW hsz1 hu hl hq hz hc hst g0 hb ht hn hks hws hm hF hW1 hbw
  rcases hfk : F key with _ | x
  · have hlk := HM.out.look Tryz.underlying88 (zeroVal W) key HQ.out.2
    rw [hfk] at hlk
    have hlk : (Instr.lookup 88 (.map (some b)) (.string key) true).run Tryz.prog W = .ok (.tuple #[.agg (valv 0), .bool false]) W := hlk
    clear hfk
    go_enter Tryz.func97, Tryz.ntmps97
    go_upto_region 1 with (fail)
    rw [← hW]
    clear hW
    go_upto_region 2 with (fail)
    obtain ⟨W5, hW5, hg5, hx5⟩ : ∃ X, X = W.alloc (.cells (valv 0) 95) ∧ Gr W X ∧ X.heap[W.heap.size]? = some (.cells (valv 0) 95 (0, 0)) := ⟨_, rfl, (Gr.refl _).alloc _, heap_alloc _ _ _⟩
    change Code.wp Tryz.prog _ _ _ (W.alloc (.cells (valv 0) 95))
    rw [← hW5]
    have HG5 := Lib.hid hg5
    have HX5 := Lib.hid hx5
    have HSZ5 := Lib.hid (show W5.heap.size = W.heap.size + 1 by rw [hW5]; simp)
    clear hW5 hg5 hx5 hlk hcell
    have c0 := (HB.out.gr HG5.out).all.1
    go_wp2_with fail
    refine (HRO.out _ ((HG0.out.trans HG.out).trans HG5.out)).mono ?_
    rintro e w6 ⟨rfl, g6⟩
    obtain ⟨W7, hW7, hg7, hx7⟩ := rubox w6 ⟨rk, rkey, roth, rmin, rst⟩
    have HG57 := Lib.hid (g6.trans hg7)
    have HX7 := Lib.hid hx7
    clear g6 hg7 hx7 c0
    go_upto_region 4 with (fail)
    change Code.wp Tryz.prog _ _ _ (w6.alloc (.cells (ruv ⟨rk, rkey, roth, rmin, rst⟩) 49))
    rw [← hW7]
    clear hW7
    obtain ⟨y0, y1, y2, y3, y4⟩ := HX7.out
    obtain ⟨l0, l1, l2, l3, l4, l5, l6, l7, l8, l9, l10, l11, l12, l13, l14, l15, l16, l17⟩ := (HB.out.gr (HG5.out.trans HG57.out)).all
    go_wp2_with fail
    refine (HVA.out _ ((HG0.out.trans HG.out).trans (HG5.out.trans HG57.out))).mono ?_
    rintro e w8 ⟨ve, rfl, hso, g8⟩
    obtain ⟨A, c, rfl, -, -⟩ := own_form hso
    obtain ⟨m, hm⟩ : ∃ m, m = (valV rk rst l v key).e.length := ⟨_, rfl⟩
    obtain ⟨vn, hvn⟩ : ∃ m, m = (valV rk rst l v key).n := ⟨_, rfl⟩
    obtain ⟨von, hvon⟩ : ∃ m, m = (valV rk rst l v key).on := ⟨_, rfl⟩
    rw [← hm, ← hvn, ← hvon]
    have HG8 := Lib.hid (HG57.out.trans g8)
    have HR8 : Hid (SO w8 W7.heap.size (.slice A m c) (valK L l v key).e ∧ vn = (valK L l v key).n ∧ von = (valK L l v key).on) := Lib.hid (by rw [← HVK.out, hm]; exact ⟨hso, hvn, hvon⟩)
    have hx8 := gr_obj HG8.out HX5.out
    have q0 : w8.cell? ⟨W.heap.size, 0, none⟩ = some (.int .i64 0) := by rw [cell_of_block hx8]; rfl
    have q1 : w8.cell? ⟨W.heap.size, 1, none⟩ = some (.slice none 0 0) := by rw [cell_of_block hx8]; rfl
    have q2 : w8.cell? ⟨W.heap.size, 2, none⟩ = some (.bool false) := by rw [cell_of_block hx8]; rfl
    have f0 := unfrozen_of_block hx8 0
    have f1 := unfrozen_of_block hx8 1
    have f2 := unfrozen_of_block hx8 2
    have HX8 := Lib.hid hx8
    obtain ⟨ke, hke⟩ : ∃ x, x = valE rk l v := ⟨_, rfl⟩
    rw [← hke]
    clear hso hm hvn hvon g8 hx8 hke l0 l1 l2 l3 l4 l5 l6 l7 l8 l9 l10 l11 l12 l13 l14 l15 l16 l17 y0 y1 y2 y3 y4
    go_upto_region 5 with (fail)
    obtain ⟨W9, hW9⟩ : ∃ X, X = (((w8.setCell ⟨W.heap.size, 0, none⟩ (.int .i64 vn)).setCell ⟨W.heap.size, 1, none⟩ (.slice A m c)).setCell ⟨W.heap.size, 2, none⟩ (.bool von)) := ⟨_, rfl⟩
    have hx9 : W9.heap[W.heap.size]? = some (.cells #[.int .i64 vn, .slice A m c, .bool von] 95 (0, 0)) := by rw [hW9]; exact set3_box HX8.out
    have hg9 : Gr W W9 := by rw [hW9]; exact gr_set3 (HG5.out.trans HG8.out) (Nat.le_refl _)
    have HS9 : Hid (RV3 W9 w0.heap.size (.agg #[.int .i64 vn, .slice A m c, .bool von]) (valK L l v key)) := Lib.hid ⟨.slice A m c, by rw [HR8.out.2.1, HR8.out.2.2], by
      rw [hW9]
      have h5 := HSZ5.out
      have h7 := HG57.out.size
      have h0 := (HG0.out.trans HG.out).size
      exact (HR8.out.1.set3 (b := W.heap.size) (by omega) _ _ _).le (by omega)⟩
    change Code.wp Tryz.prog _ _ _ (((w8.setCell ⟨W.heap.size, 0, none⟩ (.int .i64 vn)).setCell ⟨W.heap.size, 1, none⟩ (.slice A m c)).setCell ⟨W.heap.size, 2, none⟩ (.bool von))
    rw [← hW9]
    have HG9 := Lib.hid hg9
    have HX9 := Lib.hid hx9
    clear hW9 hg9 hx9 q0 q1 q2 f0 f1 f2
    have y0 : W9.cell? ⟨W.heap.size, 0, none⟩ = some (.int .i64 vn) := by rw [cell_of_block HX9.out]; rfl
    have y1 : W9.cell? ⟨W.heap.size, 1, none⟩ = some (.slice A m c) := by rw [cell_of_block HX9.out]; rfl
    have y2 : W9.cell? ⟨W.heap.size, 2, none⟩ = some (.bool von) := by rw [cell_of_block HX9.out]; rfl
    have l17 := (HB.out.gr HG9.out).all.2.2.2.2.2.2.2.2.2.2.2.2.2.2.2.2.2
    go_wp2_with (first | (at_mapUpdate; refine wpList_putS rfl (.tmp 35) (.tmp 36) (.tmp 37) 88 95 Tryz.underlying88 rfl b n F rfl (HM.out.gr HG9.out) HQ.out.1 key HQ.out.2 (.agg #[.int .i64 vn, .slice A m c, .bool von]) rfl rfl ?_))
    intro w10 hmap10 hgrow10
    have hz10 := kp_obj hgrow10 (gr_obj HG9.out HZ.out) (fun e => by injection e with e; have := HBW.out; omega)
    have hx10 := kp_obj hgrow10 HX9.out (fun e => by injection e with e; have := HBW.out; have := HSZ.out; omega)
    have HZ10 := Lib.hid hz10
    have HX : Hid (SvQ L l v b n key w0 w (.agg #[.int .i64 vn, .slice A m c, .bool von]) (((w10.setCell ⟨w.heap.size + 1, 0, none⟩ (.int .i64 vn)).setCell ⟨w.heap.size + 1, 1, none⟩ (.slice A m c)).setCell ⟨w.heap.size + 1, 2, none⟩ (.bool von))) := Lib.hid (by
      have hkF : Kp (some (w.heap.size + 1)) w10 (((w10.setCell ⟨w.heap.size + 1, 0, none⟩ (.int .i64 vn)).setCell ⟨w.heap.size + 1, 1, none⟩ (.slice A m c)).setCell ⟨w.heap.size + 1, 2, none⟩ (.bool von)) :=
        (((Kp.refl _ _).set (.inr rfl) _ _).set (.inr rfl) _ _).set (.inr rfl) _ _
      have keep : ∀ {x q}, RV3 w10 w0.heap.size x q → RV3 (((w10.setCell ⟨w.heap.size + 1, 0, none⟩ (.int .i64 vn)).setCell ⟨w.heap.size + 1, 1, none⟩ (.slice A m c)).setCell ⟨w.heap.size + 1, 2, none⟩ (.bool von)) w0.heap.size x q := fun {x q} h => by
        obtain ⟨ve, hx, hs⟩ := h
        exact ⟨ve, hx, World.ownsRow.kept hs hkF (.inr (own_ne_obj hs HZ10.out (by decide)))⟩
      have hmW := HM.out.gr HG9.out
      have hv10 := HS9.out.kp hmW hgrow10
      have hle : w0.heap.size ≤ w.heap.size + 1 := Nat.le_succ_of_le HG0.out.size
      refine ⟨keep hv10, ⟨n + 1, Nat.le_refl _, _, hmap10.kept hkF (fun e => by injection e with e; have := HBW.out; omega), fun k x hx => ?_⟩, gr_set3 (((HG0.out.trans HG.out).trans HG9.out).trans_kp hgrow10 HB0.out) hle, ?_⟩
      · by_cases e : k = key
        · rw [if_pos e] at hx
          have hx := Option.some.inj hx
          subst hx
          rw [e]
          exact keep hv10
        · rw [if_neg e] at hx
          exact keep (((HF.out k x hx).gr HG9.out).kp hmW hgrow10)
      · exact (((((Kp.of_gr (HG.out.trans HG9.out)).trans hgrow10).set (.inl (Nat.le_succ _)) _ _).set (.inl (Nat.le_succ _)) _ _).set (.inl (Nat.le_succ _)) _ _))
    clear y0 y1 y2 l17
    have y0 : w10.cell? ⟨W.heap.size, 0, none⟩ = some (.int .i64 vn) := by rw [cell_of_block hx10]; rfl
    have y1 : w10.cell? ⟨W.heap.size, 1, none⟩ = some (.slice A m c) := by rw [cell_of_block hx10]; rfl
    have y2 : w10.cell? ⟨W.heap.size, 2, none⟩ = some (.bool von) := by rw [cell_of_block hx10]; rfl
    have z0 : w10.cell? ⟨w.heap.size + 1, 0, none⟩ = some (.int .i64 0) := by rw [cell_of_block hz10]; rfl
    have z1 : w10.cell? ⟨w.heap.size + 1, 1, none⟩ = some (.slice none 0 0) := by rw [cell_of_block hz10]; rfl
    have z2 : w10.cell? ⟨w.heap.size + 1, 2, none⟩ = some (.bool false) := by rw [cell_of_block hz10]; rfl
    have k0 := unfrozen_of_block hz10 0
    have k1 := unfrozen_of_block hz10 1
    have k2 := unfrozen_of_block hz10 2
    clear hmap10 hgrow10 hz10 hx10
    go_wp2_with fail
    refine bodyPost_ret (v := .agg #[.int .i64 vn, .slice A m c, .bool von]) (by simp [results, Tryz.results97, go_sem, *]) rfl ⟨_, rfl, ?_⟩
    exact HX.out
  · have hlk := HM.out.look Tryz.underlying88 (zeroVal W) key HQ.out.2
    rw [hfk] at hlk
    obtain ⟨ve, rfl, hso⟩ := HF.out key x hfk
    obtain ⟨A, c, rfl, -, -⟩ := own_form hso
    obtain ⟨m, hm⟩ : ∃ m, m = (valK L l v key).e.length := ⟨_, rfl⟩
    obtain ⟨vn, hvn⟩ : ∃ m, m = (valK L l v key).n := ⟨_, rfl⟩
    obtain ⟨von, hvon⟩ : ∃ m, m = (valK L l v key).on := ⟨_, rfl⟩
    have HS := Lib.hid (show RV3 W w0.heap.size (.agg #[.int .i64 vn, .slice A m c, .bool von]) (valK L l v key) from ⟨.slice A m c, by rw [hvn, hvon], by rw [hm]; exact hso⟩)
    rw [← hm, ← hvn, ← hvon] at hlk
    have hlk : (Instr.lookup 88 (.map (some b)) (.string key) true).run Tryz.prog W = .ok (.tuple #[.agg #[.int .i64 vn, .slice A m c, .bool von], .bool true]) W := hlk
    clear hfk hso hm hvn hvon
    go_enter Tryz.func97, Tryz.ntmps97
    go_upto_region 1 with (fail)
    rw [← hW]
    clear hW
    go_upto_region 2 with (fail)
    obtain ⟨W5, hW5, hg5, hx5⟩ : ∃ X, X = W.alloc (.cells #[.int .i64 vn, .slice A m c, .bool von] 95) ∧ Gr W X ∧ X.heap[W.heap.size]? = some (.cells #[.int .i64 vn, .slice A m c, .bool von] 95 (0, 0)) := ⟨_, rfl, (Gr.refl _).alloc _, heap_alloc _ _ _⟩
    change Code.wp Tryz.prog _ _ _ (W.alloc (.cells #[.int .i64 vn, .slice A m c, .bool von] 95))
    rw [← hW5]
    have HG5 := Lib.hid hg5
    have y0 : W5.cell? ⟨W.heap.size, 0, none⟩ = some (.int .i64 vn) := by rw [cell_of_block hx5]; rfl
    have y1 : W5.cell? ⟨W.heap.size, 1, none⟩ = some (.slice A m c) := by rw [cell_of_block hx5]; rfl
    have y2 : W5.cell? ⟨W.heap.size, 2, none⟩ = some (.bool von) := by rw [cell_of_block hx5]; rfl
    have hz5 := gr_obj hg5 HZ.out
    have z0 : W5.cell? ⟨w.heap.size + 1, 0, none⟩ = some (.int .i64 0) := by rw [cell_of_block hz5]; rfl
    have z1 : W5.cell? ⟨w.heap.size + 1, 1, none⟩ = some (.slice none 0 0) := by rw [cell_of_block hz5]; rfl
    have z2 : W5.cell? ⟨w.heap.size + 1, 2, none⟩ = some (.bool false) := by rw [cell_of_block hz5]; rfl
    have k0 := unfrozen_of_block hz5 0
    have k1 := unfrozen_of_block hz5 1
    have k2 := unfrozen_of_block hz5 2
    have HX : Hid (SvQ L l v b n key w0 w (.agg #[.int .i64 vn, .slice A m c, .bool von]) (((W5.setCell ⟨w.heap.size + 1, 0, none⟩ (.int .i64 vn)).setCell ⟨w.heap.size + 1, 1, none⟩ (.slice A m c)).setCell ⟨w.heap.size + 1, 2, none⟩ (.bool von))) := Lib.hid (by
      have hgF : Gr w (((W5.setCell ⟨w.heap.size + 1, 0, none⟩ (.int .i64 vn)).setCell ⟨w.heap.size + 1, 1, none⟩ (.slice A m c)).setCell ⟨w.heap.size + 1, 2, none⟩ (.bool von)) := gr_set3 (HG.out.trans hg5) (Nat.le_succ _)
      have hkF : Kp (some (w.heap.size + 1)) W (((W5.setCell ⟨w.heap.size + 1, 0, none⟩ (.int .i64 vn)).setCell ⟨w.heap.size + 1, 1, none⟩ (.slice A m c)).setCell ⟨w.heap.size + 1, 2, none⟩ (.bool von)) :=
        (((Kp.of_gr hg5).set (.inr rfl) _ _).set (.inr rfl) _ _).set (.inr rfl) _ _
      have keep : ∀ {x q}, RV3 W w0.heap.size x q → RV3 (((W5.setCell ⟨w.heap.size + 1, 0, none⟩ (.int .i64 vn)).setCell ⟨w.heap.size + 1, 1, none⟩ (.slice A m c)).setCell ⟨w.heap.size + 1, 2, none⟩ (.bool von)) w0.heap.size x q := fun {x q} h => by
        obtain ⟨ve, hx, hs⟩ := h
        exact ⟨ve, hx, World.ownsRow.kept hs hkF (.inr (own_ne_obj hs HZ.out (by decide)))⟩
      refine ⟨keep HS.out, ⟨n, Nat.le_succ _, F, HM.out.kept hkF (fun e => by injection e with e; have := HBW.out; omega), fun key x hx => keep (HF.out key x hx)⟩, HG0.out.trans hgF, Kp.of_gr hgF⟩)
    clear hW5 hg5 hx5 hz5 hlk hcell
    go_wp2_with fail
    refine bodyPost_ret (v := .agg #[.int .i64 vn, .slice A m c, .bool von]) (by simp [results, Tryz.results97, go_sem, *]) rfl ⟨_, rfl, ?_⟩
    exact HX.out
end Go.Proofs.YtnjmgknicffcbaaGreatDoor
namespace Go.Proofs.YtnjmgknicffcbaaGreatDoor
open Go.RowKit Go.Joins
set_option linter.unusedSimpArgs false
set_option linter.unusedVariables false

set_option maxRecDepth 100000 in
theorem among1_any (s : ByteArray) (a : Nat) (v : Value) (G : List ByteArray) (w : World) (ha : w.cell? ⟨a, 0, none⟩ = some v) (hv : SV w v G) (hr : RisingS G) (hlen : G.length < 4611686018427387904) :
    Calls Tryz.prog 141 #[.string s, .pointer (some ⟨a, 0, none⟩)] w fun e w' => e = .returned (.bool (!memS G s)) ∧ Gr w w' := by
  have HB := Lib.hid (binS_any v G s w hv hr hlen)
  obtain ⟨A, c, hva, -⟩ := hv
  subst hva
  obtain ⟨n, hn⟩ : ∃ n, n = G.length := ⟨_, rfl⟩
  rw [← hn] at HB ha
  obtain ⟨b, hb⟩ : ∃ b, b = memS G s := ⟨_, rfl⟩
  rw [← hb] at HB ⊢
  clear hr hlen hn hb
  go_enter Tryz.func141, Tryz.ntmps141
  go_wp2_with fail
  refine HB.out.mono ?_
  rintro e w1 ⟨i, rfl, g1⟩
  go_wp2_with fail
  go_ret
  exact ⟨rfl, g1⟩
theorem egAmong : ∀ args w, (callFunc 141 args).run Tryz.prog w = .ok (.enter 141 args) w := fun args w => by kernel_rfl
theorem pcsI_any (p : ByteArray → Bool) (L : List ByteArray) : decide (0 ≤ pcsI p L) = L.any p := by
  unfold pcsI
  by_cases h : L.findIdx p < L.length
  · rw [if_pos h, decide_eq_true (by omega)]
    exact (List.any_eq_true.2 ⟨L[L.findIdx p], List.getElem_mem h, List.findIdx_getElem (w := h)⟩).symm
  · rw [if_neg h, decide_eq_false (by omega)]
    symm
    rw [Bool.eq_false_iff]
    intro k
    obtain ⟨x, hx, hp⟩ := List.any_eq_true.1 k
    exact h (List.findIdx_lt_length_of_exists ⟨x, hx, hp⟩)
set_option maxRecDepth 100000 in
theorem containsS_any (v : Value) (L : List ByteArray) (F a B : Nat) (p : ByteArray → Bool) (C : World → Prop) (w : World) (hv : SV w v L) (hp : PrS F a B p C L) (hc : C w) :
    Calls Tryz.prog 140 #[v, .func (.func F) #[] #[.pointer (some ⟨a, 0, none⟩)]] w fun e w' => e = .returned (.bool (L.any p)) ∧ Gr w w' := by
  have H := Lib.hid (indexS_any v L F a B p C w hv hp hc)
  have HE := Lib.hid (pcsI_any p L)
  obtain ⟨A, c, hva, -⟩ := hv
  subst hva
  obtain ⟨n, hn⟩ : ∃ n, n = L.length := ⟨_, rfl⟩
  rw [← hn] at H ⊢
  obtain ⟨i, hi⟩ : ∃ i, i = pcsI p L := ⟨_, rfl⟩
  rw [← hi] at H HE
  rw [← HE.out]
  clear hp hc hn hi HE
  go_enter Tryz.func140, Tryz.ntmps140
  go_wp2_with fail
  refine H.out.mono ?_
  rintro e w1 ⟨rfl, g1⟩
  go_wp2_with fail
  go_ret
  exact ⟨rfl, g1⟩
set_option maxRecDepth 100000 in
theorem ramong_any (v1 v2 : Value) (E G : List ByteArray) (w : World) (h1 : SV w v1 E) (h2 : SV w v2 G) (hr : RisingS G) (hlen : G.length < 4611686018427387904) :
    Calls Tryz.prog 99 #[v1, v2] w fun e w' => e = .returned (.bool (E.all fun x => memS G x)) ∧ Gr w w' := by
  obtain ⟨W, hW, hg, hc⟩ : ∃ W, W = w.alloc (.cells #[v2] 93) ∧ Gr w W ∧ W.cell? ⟨w.heap.size, 0, none⟩ = some v2 := by
    refine ⟨_, rfl, (Gr.refl _).alloc _, ?_⟩
    rw [cell_of_block (heap_alloc w #[v2] 93)]
    rfl
  have H := Lib.hid (containsS_any v1 E 141 w.heap.size W.heap.size (fun x => !memS G x) (fun x => Gr W x) W (h1.gr hg)
    ⟨fun x x' g hk hkp hB => hk.trans_kp hkp hB, fun x x' hk hg => hk.trans hg, fun s _ x hk => among1_any s w.heap.size v2 G x (hk.cell hc) ((h2.gr hg).gr hk) hr hlen, egAmong⟩ (Gr.refl _))
  have HG := Lib.hid hg
  have HE : Hid ((!(E.any fun x => !memS G x)) = E.all fun x => memS G x) := Lib.hid (by rw [List.not_any_eq_all_not]; simp)
  obtain ⟨A1, c1, hv1, -⟩ := h1
  obtain ⟨A2, c2, hv2, -⟩ := h2
  subst hv1 hv2
  obtain ⟨n1, hn1⟩ : ∃ n, n = E.length := ⟨_, rfl⟩
  obtain ⟨n2, hn2⟩ : ∃ n, n = G.length := ⟨_, rfl⟩
  rw [← hn1] at H ⊢
  rw [← hn2] at hW ⊢
  rw [← HE.out]
  obtain ⟨r, hr2⟩ : ∃ r, r = E.any fun x => !memS G x := ⟨_, rfl⟩
  rw [← hr2] at H ⊢
  clear hr hlen hg hc hn1 hn2 HE hr2
  go_enter Tryz.func99, Tryz.ntmps99
  go_upto_region 1 with (fail)
  rw [← hW]
  clear hW
  go_wp2_with fail
  refine H.out.mono ?_
  rintro e w1 ⟨rfl, g1⟩
  have HG1 := Lib.hid (HG.out.trans g1)
  clear g1
  go_wp2_with fail
  go_ret
  exact ⟨rfl, HG1.out⟩
end Go.Proofs.YtnjmgknicffcbaaGreatDoor
