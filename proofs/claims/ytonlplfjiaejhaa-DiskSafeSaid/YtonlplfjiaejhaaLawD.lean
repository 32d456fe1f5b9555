/- The law DiskDoes: the program's disk and the document's answer alike. -/
import Derived.Test.YtonlplfjiaejhaaLawC
import Derived.Deep.RegionHeld3
namespace Go.Proofs.Ytonlplfjiaejhaa
open Go.RowKit

/-- What holds while the operations are copied and done: this box, and all else that was there. -/
abbrev DS (W : World) (b : Nat) (v : Value) (w' : World) : Prop := w'.cell? ⟨b, 0, none⟩ = some v ∧ (Gr W w' ∧ b < W.heap.size)
theorem DS.gr {W : World} {b : Nat} {v : Value} {w1 w2 : World} (h : DS W b v w1) (q : Gr w1 w2) : DS W b v w2 := ⟨q.cell h.1, h.2.1.trans q, h.2.2⟩
theorem DS.alloc {W : World} {b : Nat} {v : Value} {w1 : World} {o : Obj} (h : DS W b v w1) : DS W b v (w1.alloc o) := h.gr (gr_box w1 o)
theorem DS.allocDrew {W : World} {b : Nat} {v : Value} {w1 : World} {o : Obj} (h : DS W b v w1.drew) : DS W b v (w1.alloc o).drew := DS.alloc (o := o) h
theorem DS.set {W : World} {b : Nat} {v u : Value} {w1 : World} {x i : Nat} (h : DS W b v w1) (hx : W.heap.size ≤ x) : DS W b v (w1.setCell ⟨x, i, none⟩ u) :=
  ⟨setCell_there h.1 (by have := h.2.2; omega), Below.setCell h.2.1 hx _, h.2.2⟩
/-- A box that is to be filled. -/
def TF (w : World) (b : Nat) : Prop := w.cell? ⟨b, 0, none⟩ = some (.slice none 0 0) ∧ w.frozen? ⟨b, 0, none⟩ = false ∧ b < w.heap.size
theorem TF.gr {w w' : World} {b : Nat} (h : TF w b) (g : Gr w w') : TF w' b := ⟨g.cell h.1, g.frozen h.2.2 h.2.1, Nat.lt_of_lt_of_le h.2.2 g.size⟩
/-- A box of a disk, in new memory, and what it holds. -/
def DB (W : World) (L : List F) (s : Value) (wx : World) : Prop := ∃ b A c, s = .pointer (some ⟨b, 0, none⟩) ∧ wx.cell? ⟨b, 0, none⟩ = some (.slice A L.length c) ∧ FO wx W.heap.size (.slice A L.length c) L ∧ W.heap.size ≤ b ∧ (∀ g, (Value.slice A L.length c).ownBlock = some g → g ≠ b) ∧ b < wx.heap.size
theorem DB.alloc {W w4 : World} {B n c : Nat} {A : Option Addr} {L : List F} (hf : FO w4 B (.slice A n c) L) (hn : L.length = n) (hB : W.heap.size ≤ B) (hs : W.heap.size ≤ w4.heap.size) : DB W L (.pointer (some ⟨w4.heap.size, 0, none⟩)) (w4.alloc (.cells #[.slice A n c] 24)) := by
  subst hn
  refine ⟨_, A, c, rfl, by simp, (hf.gr (gr_box w4 _)).le hB, hs, fun g hg => ?_, by simp⟩
  have := (World.ownsRow.lt hf g hg).2
  omega
theorem DB.set {W w4 : World} {B n c b : Nat} {A : Option Addr} {L : List F} {u : Value} (hf : FO w4 B (.slice A n c) L) (hn : L.length = n) (hb : b < B) (hWb : W.heap.size ≤ b) (x : w4.cell? ⟨b, 0, none⟩ = some u) : DB W L (.pointer (some ⟨b, 0, none⟩)) (w4.setCell ⟨b, 0, none⟩ (.slice A n c)) := by
  subst hn
  have hne : ∀ g, (Value.slice A L.length c).ownBlock = some g → g ≠ b := fun g hg => by have := (World.ownsRow.lt hf g hg).1; omega
  refine ⟨b, A, c, rfl, setCell_here x, (hf.set hne 0 _).le (by omega), hWb, hne, ?_⟩
  have := World.block_lt_of_cell? w4 ⟨b, 0, none⟩ x
  simpa [World.setCell] using this

/-- The loop that writes into the answer. -/
def WrRel (W : World) (h : Nat) (v : Value) (b B n c : Nat) (A : Option Addr) (i : Value) (wr : World) : Prop :=
  ∃ (k : Nat) (Lk : List F), i = .int .i64 (k : Int) ∧ k ≤ n ∧ Lk.length = n ∧ FO wr B (.slice A n c) Lk ∧ wr.cell? ⟨b, 0, none⟩ = some (.slice A n c) ∧ DS W h v wr
set_option maxRecDepth 100000 in
set_option maxHeartbeats 4000000 in
theorem diskDoes_any (v vo : Value) (L : List F) (ops : List O) (nm : ByteArray) (w : World) (hv : FV w v L) (ho : OV w vo ops) (hf : Fit L) (hfo : ∀ o ∈ ops, FitO o) (hnz : nm.size ≤ 9223372036854775807) (hlen : (L.length + 1) * 48 ≤ 140737488355328) (hlo : ops.length * 48 ≤ 140737488355328) :
    Calls Try.prog 3 #[.agg #[v], vo, .string nm] w fun e w' => e = .returned (.bool true) ∧ Gr w w' := by
  obtain ⟨A, c, hva, _⟩ := id hv
  obtain ⟨Ao, co, hvo, _⟩ := id ho
  have HV := Lib.hid hv
  have HO := Lib.hid ho
  subst hva hvo
  have HFIT := Lib.hid (And.intro hf (And.intro hfo (And.intro hlen hlo)))
  clear hv ho hf hfo
  obtain ⟨n, hn⟩ : ∃ n, n = L.length := ⟨_, rfl⟩
  obtain ⟨m, hm⟩ : ∃ n, n = ops.length := ⟨_, rfl⟩
  have HN := Lib.hid hn
  have HM := Lib.hid hm
  rw [← hn] at HV hlen
  rw [← hm] at HO hlo
  rw [← hn, ← hm]
  clear hn hm
  have HA := Lib.hid (fun w1 => awake_any w1)
  have HN1 := Lib.hid (fun w1 => name_any nm hnz w1)
  have HN2 := Lib.hid (fun w1 => rname_any nm hnz w1)
  go_enter Try.func3, Try.ntmps3
  go_wp2_with fail
  refine (HA.out _).mono ?_
  rintro e w1 ⟨rfl, g1⟩
  have b1 : w1.cell? ⟨w.heap.size, 0, none⟩ = some (.slice A n c) := g1.cell (by simp)
  have G1 := Lib.hid ((gr_box w (.cells #[.slice A n c] 24)).trans g1)
  clear g1
  go_wp2_with fail
  refine (HN1.out _).mono ?_
  rintro e w2 ⟨rfl, rfl⟩
  go_wp2_with fail
  refine (HN2.out _).mono ?_
  rintro e w2 ⟨rfl, rfl⟩
  obtain ⟨q, hq⟩ : ∃ q, q = nameOk nm := ⟨_, rfl⟩
  rw [← hq]
  clear hq HN1 HN2
  go_wp2_with fail
  have HRM := Lib.hid (roomy_any (.slice A n c) L w1 (HV.out.gr G1.out) (by rw [← HN.out]; exact hlen))
  refine HRM.out.mono ?_
  rintro e w2 ⟨v2, rfl, hm2, g2⟩
  obtain ⟨gm, cm, hv2, hmr⟩ := id hm2
  rw [← HN.out] at hv2
  subst hv2
  have b2 := g2.cell b1
  have HMO : Hid (MO w2 w1.heap.size (.slice (some ⟨gm, 0, none⟩) n cm) L) := Lib.hid hm2
  have G2 := Lib.hid (G1.out.trans g2)
  clear hm2 hmr g2 b1 HRM
  obtain ⟨W3, hW3, G3, x3, hz3⟩ : ∃ W3, W3 = w2.alloc (.cells #[.slice (some ⟨gm, 0, none⟩) n cm] 24) ∧ Gr w2 W3 ∧ W3.cell? ⟨w2.heap.size, 0, none⟩ = some (.slice (some ⟨gm, 0, none⟩) n cm) ∧ w2.heap.size < W3.heap.size := ⟨_, rfl, gr_box w2 _, by simp, by simp⟩
  go_upto_region 4 with (fail)
  rw [← hW3]
  clear hW3
  have b3 := G3.cell b2
  have HM3 := Lib.hid (HMO.out.gr G3)
  have HG3 := Lib.hid (G2.out.trans G3)
  obtain ⟨h7, hh7⟩ : ∃ h, h = w2.heap.size := ⟨_, rfl⟩
  rw [← hh7] at x3 hz3 ⊢
  have HDS : Hid (DS W3 h7 (.slice (some ⟨gm, 0, none⟩) n cm) W3) := Lib.hid ⟨x3, Gr.refl _, hz3⟩
  clear b2 hh7
  go_cut [8, 9, 10] (fun s8 s9 s10 wx => s9 = .int .i64 ((run L ops).2.1 : Int) ∧ s10 = .int .i64 ((run L ops).2.2 : Int) ∧ DB W3 (run L ops).1 s8 wx ∧ DS W3 h7 (.slice (some ⟨gm, 0, none⟩) n cm) wx)
  case first =>
    have HFD : Hid (∀ w', Gr W3 w' → ∀ vo', OV w' vo' ops → Calls Try.prog 13 #[.agg #[.slice (some ⟨gm, 0, none⟩) n cm], vo'] w' fun e w'' => RetDo L ops w' e w'') := Lib.hid (fun w' q vo' hvo' => do_any _ vo' L ops w' (HM3.out.fo.gr q).fv hvo' HFIT.out.1 HFIT.out.2.1 (by rw [← HN.out]; omega))
    have HOW : Hid (∀ w', Gr W3 w' → OV w' (.slice Ao m co) ops) := Lib.hid (fun w' q => HO.out.gr (HG3.out.trans q))
    go_region_held3 (fun w' => DS W3 h7 (.slice (some ⟨gm, 0, none⟩) n cm) w')
      (first
        | (with_reducible exact HDS.out)
        | (with_reducible exact DS.gr HDS.out (Gr.refl _).drew)
        | (with_reducible refine DS.alloc ?_; with_reducible assumption)
        | (with_reducible refine DS.allocDrew ?_; with_reducible assumption)
        | (with_reducible refine DS.gr ?_ ha; with_reducible assumption)
        | (with_reducible refine DS.gr ?_ hb; with_reducible assumption)
        | (with_reducible exact DS.alloc HD4.out)
        | ((with_reducible refine DS.set ?_ ?_); (with_reducible assumption); (first | exact Nat.le_refl _ | exact Nat.le_succ _ | exact Below.size HDw.out.2.1 | exact Below.size HD4.out.2.1)))
      (first
        | (refine step_append_ops rfl (.tmp 28) (.tmp 29) rfl (.slice Ao m co) ops m HM.out ⟨_, rfl⟩ rfl (HOW.out _ (by first | (with_reducible refine (DS.alloc ?_ : DS _ _ _ _).2.1; with_reducible assumption) | exact (‹DS _ _ _ _›).2.1)) hlo ?_; intro A' c' w' ho' ha; have HDw : Hid (DS W3 h7 (.slice (some ⟨gm, 0, none⟩) n cm) w') := Lib.hid (DS.gr (by assumption) ha); (first | (have t80 : TF w' W3.heap.size := by (first | (refine TF.gr ?_ ha; unfold TF; simp; done) | (refine TF.gr ?_ ha; unfold TF; simp; omega))) | skip); (first | (have t81 : TF w' (W3.heap.size + 1) := by (first | (refine TF.gr ?_ ha; unfold TF; simp; done) | (refine TF.gr ?_ ha; unfold TF; simp; omega))) | skip))
        | (go_at_call 13; (with_reducible refine (HFD.out _ ?_ _ ?_).mono ?_); exact (‹DS _ _ _ _›).2.1; (first | exact ho' | exact ho'.gr (gr_box _ _)); rintro e w4 ⟨v4, rfl, hf4, hb⟩; obtain ⟨A4, c4, hv4, -, -⟩ := hf4.form; obtain ⟨n4, hn4⟩ := name_len (run L ops).1; rw [hn4] at hv4; subst hv4; have HD4 : Hid (DS W3 h7 (.slice (some ⟨gm, 0, none⟩) n cm) w4) := Lib.hid (DS.gr (by assumption) hb); (first | (have x80 : w4.cell? ⟨W3.heap.size, 0, none⟩ = some (.slice none 0 0) := by (first | (exact (TF.gr t80 hb).1))) | skip); (first | (have z80 : w4.frozen? ⟨W3.heap.size, 0, none⟩ = false := by (first | (exact (TF.gr t80 hb).2.1))) | skip); (first | (have x81 : w4.cell? ⟨W3.heap.size + 1, 0, none⟩ = some (.slice none 0 0) := by (first | (exact (TF.gr t81 hb).1))) | skip); (first | (have z81 : w4.frozen? ⟨W3.heap.size + 1, 0, none⟩ = false := by (first | (exact (TF.gr t81 hb).2.1))) | skip); (first | (have x82 : w4.cell? ⟨w'.heap.size, 0, none⟩ = some (.slice none 0 0) := by (first | (refine (TF.gr ?_ hb).1; unfold TF; simp; done))) | skip); (first | (have z82 : w4.frozen? ⟨w'.heap.size, 0, none⟩ = false := by (first | (refine (TF.gr ?_ hb).2.1; unfold TF; simp; done))) | skip)))
    all_goals
      have HF4 := Lib.hid hf4
      have HS4 := Lib.hid ‹DS W3 h7 (.slice (some ⟨gm, 0, none⟩) n cm) _›
      have s1 : W3.heap.size ≤ w'.heap.size := Below.size HDw.out.2.1
      have s2 : W3.heap.size ≤ w4.heap.size := Below.size HD4.out.2.1
      clear hf4
      go_wp2_with fail
      go_meet
      refine ⟨rfl, rfl, ?_, HS4.out⟩
      first
        | exact DB.alloc HF4.out hn4 s1 s2
        | exact DB.set HF4.out hn4 (by simp) s1 x82
        | exact DB.set HF4.out hn4 (by have := Below.size ha; simp at this; omega) (Nat.le_succ _) x81
        | exact DB.set HF4.out hn4 (by have := Below.size ha; simp at this; omega) (Nat.le_refl _) x80
  case rest =>
    obtain ⟨rfl, rfl, ⟨b8, A8, c8, rfl, x8, hf8, hb8, hne8, hlt8⟩, hds⟩ := hcut
    obtain ⟨L8, hL8⟩ : ∃ L8, L8 = (run L ops).1 := ⟨_, rfl⟩
    obtain ⟨k9, hk9⟩ : ∃ k, k = (run L ops).2.1 := ⟨_, rfl⟩
    obtain ⟨k10, hk10⟩ : ∃ k, k = (run L ops).2.2 := ⟨_, rfl⟩
    rw [← hL8] at x8 hf8 hne8
    obtain ⟨n8, hn8⟩ := name_len L8
    rw [hn8] at x8 hf8 hne8
    have HF8 := Lib.hid hf8
    have HDS8 := Lib.hid hds
    have HNE8 := Lib.hid hne8
    have HN8 := Lib.hid hn8
    have y3 := hds.2.1.cell b3
    have B3 := Lib.hid b3
    have HGc := Lib.hid (HG3.out.trans hds.2.1)
    have HRD := Lib.hid (rdo_any (.slice A n c) (.slice Ao m co) L ops wc (HV.out.gr HGc.out) (HO.out.gr HGc.out) HFIT.out.1 HFIT.out.2.1 (by rw [← HN.out]; omega))
    unfold RetDo at HRD
    rw [← hL8, ← hk9, ← hk10] at HRD
    rw [← hk9, ← hk10]
    have HL8 := Lib.hid hL8
    clear hf8 hne8 hn8 hds hk9 hk10 hL8 b3
    go_wp2_with fail
    refine HRD.out.mono ?_
    rintro e w5 ⟨v5, rfl, hf5, g5⟩
    obtain ⟨A5, c5, hv5, -, -⟩ := hf5.form
    rw [HN8.out] at hv5
    subst hv5
    have HF5 := Lib.hid hf5
    obtain ⟨W6, hW6, G6, x6, hz6⟩ : ∃ W6, W6 = w5.alloc (.cells #[.slice A5 n8 c5] 24) ∧ Gr w5 W6 ∧ W6.cell? ⟨w5.heap.size, 0, none⟩ = some (.slice A5 n8 c5) ∧ w5.heap.size < W6.heap.size := ⟨_, rfl, gr_box w5 _, by simp, by simp⟩
    have z8 := G6.cell (g5.cell x8)
    have z3 := G6.cell (g5.cell y3)
    have HDS6 := Lib.hid ((HDS8.out.gr g5).gr G6)
    have z7 := HDS6.out.1
    have HFO6 := Lib.hid ((HF8.out.gr g5).gr G6)
    have HFR6 := Lib.hid (HF5.out.gr G6)
    clear hf5 g5 x8 y3 G6
    go_upto_region 6 with (fail)
    rw [← hW6]
    clear hW6
    have HSM := Lib.hid (same_any _ _ L8 L8 W6 HFO6.out.fv HFR6.out.fv)
    rw [sameB_yes rfl] at HSM
    go_wp2_with fail
    refine HSM.out.mono ?_
    rintro e w7 ⟨rfl, g7⟩
    have a8 := g7.cell z8
    have a3 := g7.cell z3
    have HDS7 := Lib.hid (HDS6.out.gr g7)
    have a7 := HDS7.out.1
    have HFO7 : Hid (FO w7 W3.heap.size (.slice A8 n8 c8) L8) := Lib.hid (HFO6.out.gr g7)
    have HG7 := Lib.hid (HG3.out.trans HDS7.out.2.1)
    have HK := Lib.hid (fun w' (q : Gr W3 w') => kept_any _ _ L _ w' (HM3.out.gr q) (HV.out.gr (HG3.out.trans q)))
    clear g7 z8 z3 z7 x6 hz6
    go_wp2_with fail
    refine (HK.out _ HDS7.out.2.1).mono ?_
    rintro e w8 ⟨rfl, g8⟩
    have e8 := g8.cell a8
    have e3 := g8.cell a3
    have HDS9 := Lib.hid (HDS7.out.gr g8)
    have e7 := HDS9.out.1
    have HFO8 : Hid (FO w8 W3.heap.size (.slice A8 n8 c8) L8) := Lib.hid (HFO7.out.gr g8)
    have HST : Hid (WrRel W3 h7 (.slice (some ⟨gm, 0, none⟩) n cm) b8 W3.heap.size n8 c8 A8 (.int .i64 0) w8) := Lib.hid ⟨0, L8, rfl, Nat.zero_le _, HN8.out, HFO8.out, e8, HDS9.out⟩
    have hc8 : n8 ≤ c8 ∧ c8 ≤ 9223372036854775807 := by
      obtain ⟨A', c', h1, h2, h3⟩ := HFO8.out.form
      rw [HN8.out] at h1 h2
      injection h1 with _ _ h1
      subst h1
      exact ⟨h2, h3⟩
    have hc88 : c8 ≤ 9223372036854775807 := hc8.2
    have hc87 : n8 ≤ c8 := hc8.1
    clear g8 a8 a3 a7 e8 e7 hc8
    go_wp2_with fail
    go_loopw [14] (fun i wr => WrRel W3 h7 (.slice (some ⟨gm, 0, none⟩) n cm) b8 W3.heap.size n8 c8 A8 i wr) (fun i _ => n8 - (intOf i).toNat)
    case atStart => exact HST.out
    case round =>
      obtain ⟨k, Lk, rfl, hk, hlk, hfk, hbk, hdk⟩ := hrel
      have HFK := Lib.hid hfk
      have HDK := Lib.hid hdk
      have HLK := Lib.hid hlk
      clear hfk hdk hlk HST e3
      by_cases hlt : k < n8
      · have hkl : k < Lk.length := by rw [HLK.out]; exact hlt
        obtain ⟨g, cc, hvv⟩ := HFK.out.addr hkl
        injection hvv with q1 q2 q3
        subst q1 q3
        clear q2
        have y1 : wr.cell? ⟨g, k * 3 + 1, none⟩ = some (.string Lk[k].kept) := (HFK.out.at_ hkl).2.1
        have zf : wr.frozen? ⟨g, k * 3 + 1, none⟩ = false := HFK.out.free _
        have hgb : g ≠ b8 := HNE8.out g rfl
        have hgl := HFK.out.len.2.2.2.1
        have HQ : Hid (WrRel W3 h7 (.slice (some ⟨gm, 0, none⟩) n cm) b8 W3.heap.size n8 c8 (some ⟨g, 0, none⟩) (.int .i64 ((k : Int) + 1)) (wr.setCell ⟨g, k * 3 + 1, none⟩ (.string ⟨#[111, 116, 104, 101, 114]⟩))) := Lib.hid (by
          refine ⟨k + 1, Lk.set k ⟨Lk[k].name, ⟨#[111, 116, 104, 101, 114]⟩, Lk[k].loose⟩, by go_num, by omega, by rw [List.length_set]; exact HLK.out, (FO.store HFK.out hkl (r := 1) (by decide) ⟨Lk[k].name, ⟨#[111, 116, 104, 101, 114]⟩, Lk[k].loose⟩ (.string ⟨#[111, 116, 104, 101, 114]⟩) rfl).1, setCell_there hbk (fun e => hgb e.symm), DS.set HDK.out hgl⟩)
        go_wp2_with fail
        go_roundw
        case rel => exact HQ.out
        case measure => simp [intOf]; omega
      · have hG := HDK.out.2.1
        have c7 := HDK.out.1
        have c3 := hG.cell B3.out
        have HK2 := Lib.hid (HK.out _ hG)
        have HGF := Lib.hid (HG3.out.trans hG)
        clear hG
        go_wp2_with fail
        refine HK2.out.mono ?_
        rintro e w9 ⟨rfl, g9⟩
        have HGZ := Lib.hid (HGF.out.trans g9)
        clear g9
        go_wp2_with fail
        go_ret
        exact ⟨rfl, HGZ.out⟩
end Go.Proofs.Ytonlplfjiaejhaa
