/- Walks: elems, rising, firm, last of fold. Written by wip/tools/genfoq.py. Walks: named and done as one, Apply. -/
import Derived.Test.YtlihcjlonafohaaGreatZf31
import Derived.Test.YtlihcjlonafohaaGreatZf16
import Derived.Test.YtlihcjlonafohaaGreatZf32
import Derived.Test.YtlihcjlonafohaaGreatZf33
import Derived.Test.YtlihcjlonafohaaGreatZf34
import Derived.Test.YtlihcjlonafohaaGreatZf04
namespace Go.Proofs.YtlihcjlonafohaaGreat
open Go.RowKit Go.Joins
set_option linter.unusedSimpArgs false
set_option linter.unusedVariables false

def elemsG (L : List TG) : List ByteArray := L.map TG.e
theorem gv_form {w : World} {v : Value} {L : List TG} (h : GV w v L) : ∃ A n c, v = .slice A n c := by
  obtain ⟨A, c, hv, _⟩ := h
  exact ⟨A, _, c, hv⟩
theorem sv_form3 {w : World} {v : Value} {L : List ByteArray} (h : SV w v L) : ∃ A n c, v = .slice A n c := by
  obtain ⟨A, c, hv, _⟩ := h
  exact ⟨A, _, c, hv⟩
theorem elemsG_len (L : List TG) : (elemsG L).length = L.length := List.length_map _
set_option maxRecDepth 100000 in
set_option maxHeartbeats 4000000 in
theorem elemsF_any (v : Value) (L : List TG) (w : World) (h : GV w v L) (hlen : L.length ≤ 1000000) :
    Calls Tryz.prog 51 #[v] w fun e w' => RetStrsV (elemsG L) w e w' := by
  obtain ⟨A, c, hvf, hnc, ⟨hcm, -⟩, hat⟩ := h
  subst hvf
  have HAT : Hid (∀ j (hj : j < L.length), ∃ b off, A = some ⟨b, off, none⟩ ∧ TGc w b (off + j * 4) L[j]) := Lib.hid hat
  obtain ⟨n, hn⟩ : ∃ n, n = L.length := ⟨_, rfl⟩
  have HN := Lib.hid hn
  rw [← hn] at hnc hlen ⊢
  obtain ⟨W1, hmk, hso, hg1⟩ := make_strs n (by omega) w
  have HSO : Hid (SO W1 w.heap.size (.slice (some ⟨w.heap.size, 0, none⟩) n n) (fillE (elemsG L) 0)) := Lib.hid (by rw [fillE_zero, elemsG_len, ← HN.out]; exact hso)
  have HG1 := Lib.hid hg1
  clear hat hn hso hg1 hcm
  go_enter Tryz.func51, Tryz.ntmps51
  go_wp2_with fail
  clear hmk
  go_loopw [11] (fun i wr => ∃ j : Nat, j ≤ n ∧ i = .int .i64 j ∧ Hid (SO wr w.heap.size (.slice (some ⟨w.heap.size, 0, none⟩) n n) (fillE (elemsG L) j) ∧ Gr w wr)) (fun i _ => n - (intOf i).toNat)
  case atStart => exact ⟨0, Nat.zero_le _, rfl, Lib.hid ⟨HSO.out, HG1.out⟩⟩
  case round =>
    obtain ⟨j, hj, rfl, hst⟩ := hrel
    rename World => wr
    by_cases hjn : j < n
    · have hj0 : (0 : Int) ≤ (j : Int) := Int.natCast_nonneg _
      have hjn1 : (j : Int) < (n : Int) := by omega
      have hjl : j < L.length := by rw [← HN.out]; exact hjn
      obtain ⟨b, off, hA, hc0⟩ := HAT.out j hjl
      subst hA
      obtain ⟨x, hx⟩ : ∃ x, x = L[j] := ⟨_, rfl⟩
      rw [← hx] at hc0
      obtain ⟨a0, a1, a2, a3⟩ := hc0.gr hst.out.2
      obtain ⟨W5, hW5, hg5, y0, y1, y2, y3⟩ := tgbox wr x
      have hel : x.e = (elemsG L)[j]'(by rw [elemsG_len]; exact hjl) := by
        unfold elemsG
        rw [List.getElem_map, hx]
      have HNX : Hid ((fillE (elemsG L) j).set j x.e = fillE (elemsG L) (j + 1)) := Lib.hid (by rw [hel]; exact fillE_next (by rw [elemsG_len]; exact hjl))
      have HLE : Hid (j < (fillE (elemsG L) j).length) := Lib.hid (by rw [fillE_len _ (by rw [elemsG_len]; omega), elemsG_len]; exact hjl)
      have HST5 : Hid (SO W5 w.heap.size (.slice (some ⟨w.heap.size, 0, none⟩) n n) (fillE (elemsG L) j) ∧ Gr w W5) := Lib.hid ⟨hst.out.1.gr hg5, hst.out.2.trans hg5⟩
      obtain ⟨u, hu⟩ : ∃ u, u = (fillE (elemsG L) j)[j]'HLE.out := ⟨_, rfl⟩
      have q0 := HST5.out.1.atV HLE.out
      rw [← hu] at q0
      have k0 := HST5.out.1.freeV j
      clear hc0 hst hx hel hg5 hu
      go_upto_region 5 with (fail)
      change Code.wp Tryz.prog _ _ _ (wr.alloc (.cells (tgv x) 37))
      rw [← hW5]
      clear hW5 a0 a1 a2 a3
      have HS6 : Hid (SO (W5.setCell ⟨w.heap.size, j, none⟩ (.string x.e)) w.heap.size (.slice (some ⟨w.heap.size, 0, none⟩) n n) (fillE (elemsG L) (j + 1)) ∧ Gr w (W5.setCell ⟨w.heap.size, j, none⟩ (.string x.e))) := Lib.hid ⟨by rw [← HNX.out]; exact HST5.out.1.setV HLE.out x.e, HST5.out.2.setCell (Nat.le_refl _) _⟩
      go_wp2_with fail
      go_roundw
      case measure => simp [intOf]; omega
      case rel => exact ⟨j + 1, by omega, by go_num, HS6⟩
    · obtain rfl : j = n := by omega
      have ho := hst.out.1
      have e1 : fillE (elemsG L) j = elemsG L := by
        have := fillE_all (elemsG L)
        rw [elemsG_len, ← HN.out] at this
        exact this
      rw [e1] at ho
      have HO := Lib.hid (And.intro ho hst.out.2)
      clear hst ho e1
      go_wp2_with fail
      go_ret
      exact ⟨_, rfl, HO.out.1, HO.out.2⟩
set_option maxRecDepth 100000 in
set_option maxHeartbeats 4000000 in
theorem risingF_any (v : Value) (T : List ByteArray) (w : World) (h : SV w v T) (hlen : T.length ≤ 1000000) (hs : ∀ x ∈ T, x.size ≤ 281474976710656) :
    Calls Tryz.prog 50 #[v] w fun e w' => RetStrsV (riseT T) w e w' := by
  have HL := Lib.hid hs
  have HCN := Lib.hid (sclonesV_any v T w h (by omega))
  obtain ⟨A, c, hvf, -⟩ := h
  subst hvf
  obtain ⟨n, hn⟩ : ∃ n, n = T.length := ⟨_, rfl⟩
  rw [← hn] at HCN hlen ⊢
  have HN := Lib.hid hn
  clear hn hs
  go_enter Tryz.func50, Tryz.ntmps50
  go_wp2_with fail
  refine HCN.out.mono ?_
  rintro e w1 ⟨v1, rfl, ho1, g1⟩
  have HSR := Lib.hid (sortS_any _ _ _ _ ho1 (by rw [← HN.out]; omega))
  have HBK1 : Hid (∀ q, v1.ownBlock = some q → w.heap.size ≤ q) := Lib.hid (fun q hq => (World.ownsRow.lt (h := ho1) q hq).1)
  obtain ⟨A1, c1, hv1, -, -⟩ := own_form ho1
  rw [← HN.out] at hv1
  subst hv1
  have HG1 := Lib.hid g1
  clear ho1 g1
  go_wp2_with fail
  refine HSR.out.mono ?_
  rintro e w2 ⟨rfl, ho2, k2⟩
  have HG2 := Lib.hid (Kp.gr_of HG1.out k2 HBK1.out)
  have HCR := Lib.hid (compS_any _ _ _ _ ho2 (by rw [sortT_len, ← HN.out]; omega))
  clear k2 ho2
  go_wp2_with fail
  refine HCR.out.mono ?_
  rintro e w3 ⟨v3, rfl, ho3, hb3, k3⟩
  have HG3 := Lib.hid (Kp.gr_of HG2.out k3 HBK1.out)
  rw [compT_sort] at ho3
  have HCP := Lib.hid (copiesF_any v3 _ w3 ho3.sv (by have := riseT_len T; rw [← HN.out] at this; omega) (fun s hsm => HL.out s (mem_riseT.1 hsm)))
  obtain ⟨A3, c3, hs3, -, -⟩ := own_form ho3
  subst hs3
  obtain ⟨m3, hm3⟩ : ∃ m, m = (riseT T).length := ⟨_, rfl⟩
  rw [← hm3] at HCP ⊢
  clear k3 ho3 hb3 hm3
  go_wp2_with fail
  refine HCP.out.mono ?_
  rintro e w4 ⟨v4, rfl, ho4, g4⟩
  have HO4 := Lib.hid ho4
  obtain ⟨A4, c4, hs4, -, -⟩ := own_form ho4
  subst hs4
  clear ho4
  obtain ⟨m4, hm4⟩ : ∃ m, m = (riseT T).length := ⟨_, rfl⟩
  rw [← hm4] at HO4 ⊢
  clear hm4
  go_wp2_with fail
  go_ret
  exact ⟨_, rfl, HO4.out.le HG3.out.size, HG3.out.trans g4⟩
set_option maxRecDepth 100000 in
theorem firmF1_any (s : ByteArray) (a : Nat) (v : Value) (G : List ByteArray) (w : World) (ha : w.cell? ⟨a, 0, none⟩ = some v) (hv : SV w v G) (hr : RisingS G) (hlen : G.length < 4611686018427387904) :
    Calls Tryz.prog 101 #[.string s, .pointer (some ⟨a, 0, none⟩)] w fun e w' => e = .returned (.bool (memS G s)) ∧ Gr w w' := by
  have HB := Lib.hid (binS_any v G s w hv hr hlen)
  obtain ⟨A, c, hva, -⟩ := hv
  subst hva
  obtain ⟨n, hn⟩ : ∃ n, n = G.length := ⟨_, rfl⟩
  rw [← hn] at HB ha
  clear hr hlen hn
  go_enter Tryz.func101, Tryz.ntmps101
  go_wp2_with fail
  refine HB.out.mono ?_
  rintro e w1 ⟨i, rfl, g1⟩
  go_wp2_with fail
  go_ret
  exact ⟨rfl, g1⟩
/-- A Firm state's elements. -/
def firmS (E : List ByteArray) (L : List TG) : List ByteArray := (riseT E).filter fun s => !memS (riseT (elemsG L)) s
theorem egFirmF : ∀ args w, (callFunc 101 args).run Tryz.prog w = .ok (.enter 101 args) w := fun args w => by kernel_rfl
set_option maxRecDepth 100000 in
set_option maxHeartbeats 4000000 in
theorem firmF_any (k m : Int) (ve vl : Value) (E : List ByteArray) (L : List TG) (has : Bool) (st : Nat) (top : TG) (df : Bool) (w : World) (he : SV w ve E) (hl : GV w vl L) (hft : FitR ⟨k, m, E, L, has, st, top, df⟩) :
    Calls Tryz.prog 52 #[.agg (fsc k m ve vl has st top df)] w fun e w' => RetStrsV (firmS E L) w e w' := by
  obtain ⟨A1, n1, c1, rfl⟩ := sv_form3 he
  obtain ⟨A2, n2, c2, rfl⟩ := gv_form hl
  obtain ⟨W1, hW1, hg1, hs1⟩ : ∃ W, W = w.alloc (.cells (fsc k m (.slice A1 n1 c1) (.slice A2 n2 c2) has st top df) 39) ∧ Gr w W ∧ W.heap[w.heap.size]? = some (.cells (fsc k m (.slice A1 n1 c1) (.slice A2 n2 c2) has st top df) 39 (0, 0)) := ⟨_, rfl, (Gr.refl _).alloc _, heap_alloc _ _ _⟩
  obtain ⟨S, hS⟩ : ∃ S, S = w.heap.size := ⟨_, rfl⟩
  rw [← hS] at hs1
  have HS := Lib.hid hs1
  have HG1 := Lib.hid hg1
  have HEL := Lib.hid (elemsF_any _ L W1 (hl.gr hg1) hft.live)
  have HRI := Lib.hid (fun (v : Value) (T : List ByteArray) (w1 : World) (h : SV w1 v T) (hle : T.length ≤ 1000000) (hz : ∀ x ∈ T, x.size ≤ 281474976710656) => risingF_any v T w1 h hle hz)
  have HEV := Lib.hid (fun w1 (g : Gr W1 w1) => (he.gr hg1).gr g)
  have HFT := Lib.hid hft
  have p3 : W1.cell? ⟨S, 3, none⟩ = some (.slice A2 n2 c2) := by rw [cell_of_block hs1]; rfl
  clear hg1 he hl hft hs1
  go_enter Tryz.func52, Tryz.ntmps52
  go_upto_region 1 with (fail)
  change Code.wp Tryz.prog _ _ _ (w.alloc (.cells (fsc k m (.slice A1 n1 c1) (.slice A2 n2 c2) has st top df) 39))
  rw [← hW1, ← hS]
  clear hW1 hS
  go_wp2_with fail
  refine HEL.out.mono ?_
  rintro e w2 ⟨s1, rfl, ho1, g1⟩
  have HR1 := Lib.hid (HRI.out s1 _ w2 ho1.sv (by rw [elemsG_len]; exact HFT.out.live) (fun x hx => by
    obtain ⟨t, ht, rfl⟩ := List.mem_map.1 hx
    exact HFT.out.tz t ht))
  obtain ⟨A3, c3, hs3, -, -⟩ := own_form ho1
  subst hs3
  obtain ⟨m1, hm1⟩ : ∃ m, m = (elemsG L).length := ⟨_, rfl⟩
  rw [← hm1] at HR1 ⊢
  have HG2 := Lib.hid g1
  clear ho1 g1 hm1 p3
  go_wp2_with fail
  refine HR1.out.mono ?_
  rintro e w3 ⟨s2, rfl, ho2, g2⟩
  obtain ⟨G, hG⟩ : ∃ G, G = riseT (elemsG L) := ⟨_, rfl⟩
  rw [← hG] at ho2
  have HGG := Lib.hid hG
  have hrG : RisingS G := by rw [hG]; exact riseT_rising _
  have hlG : G.length ≤ 1000000 := by
    rw [hG]
    have h1 := riseT_len (elemsG L)
    rw [elemsG_len] at h1
    have h2 : L.length ≤ 1000000 := HFT.out.live
    omega
  have HRG := Lib.hid (And.intro hrG hlG)
  have HO2 := Lib.hid ho2
  obtain ⟨A4, c4, hs4, -, -⟩ := own_form ho2
  subst hs4
  obtain ⟨m2, hm2⟩ : ∃ m, m = G.length := ⟨_, rfl⟩
  rw [← hm2] at HO2 ⊢
  obtain ⟨W, hW, hg, hc, hsz⟩ : ∃ W, W = w3.alloc (.cells #[.slice A4 m2 c4] 34) ∧ Gr w3 W ∧ W.cell? ⟨w3.heap.size, 0, none⟩ = some (.slice A4 m2 c4) ∧ W.heap.size = w3.heap.size + 1 := by
    refine ⟨_, rfl, (Gr.refl _).alloc _, ?_, ?_⟩
    · rw [cell_of_block (heap_alloc w3 #[.slice A4 m2 c4] 34)]
      rfl
    · simp
  have hgW : Gr W1 W := (HG2.out.trans g2).trans hg
  have HGW := Lib.hid hgW
  have HOW : Hid (SO W w2.heap.size (.slice A4 m2 c4) G) := Lib.hid (HO2.out.gr hg)
  have HBL : Hid (∀ b, (Value.slice A4 m2 c4).ownBlock = some b → b < w3.heap.size) := Lib.hid (fun b hb => (World.ownsRow.lt (h := HO2.out) b hb).2)
  have HC := Lib.hid hc
  have HSZ := Lib.hid hsz
  have hsW := gr_obj hgW HS.out
  have p2 : W.cell? ⟨S, 2, none⟩ = some (.slice A1 n1 c1) := by rw [cell_of_block hsW]; rfl
  have HR4 := Lib.hid (HRI.out _ _ W (HEV.out W hgW) HFT.out.ever HFT.out.sz)
  clear ho2 g2 hG hrG hlG hm2 hg hc hsz hgW hsW
  go_upto_region 2 with (fail)
  rw [← hW]
  clear hW
  go_wp2_with fail
  refine HR4.out.mono ?_
  rintro e w5 ⟨s5, rfl, ho5, g5⟩
  obtain ⟨F, hF⟩ : ∃ F, F = riseT E := ⟨_, rfl⟩
  have ho5 : SO w5 W.heap.size s5 (riseT E) := ho5
  rw [← hF] at ho5
  have HP : Hid (PrS 101 w3.heap.size W.heap.size (memS G) (fun x => x.cell? ⟨w3.heap.size, 0, none⟩ = some (.slice A4 m2 c4) ∧ SO x w2.heap.size (.slice A4 m2 c4) G) F) := Lib.hid (by
    refine ⟨fun x x' g hc hk hg => ?_, fun x x' hc hk => ⟨hk.cell hc.1, hc.2.gr hk⟩, fun s _ x hc => firmF1_any s w3.heap.size _ G x hc.1 hc.2.sv HRG.out.1 (by have := HRG.out.2; omega), egFirmF⟩
    have h5 := HSZ.out
    refine ⟨hk.cellNe hc.1 ?_, World.ownsRow.kept hc.2 hk ?_⟩
    · show w3.heap.size ≠ g
      omega
    · cases hb : (Value.slice A4 m2 c4).ownBlock with
      | none => exact .inl rfl
      | some b =>
        refine .inr fun e => ?_
        have := HBL.out b hb
        injection e with e
        omega)
  have HDL := Lib.hid (delS_any s5 F 101 w3.heap.size W.heap.size (memS G) _ w5 ho5 HP.out ⟨g5.cell HC.out, HOW.out.gr g5⟩)
  have HBS : Hid (∀ b, s5.ownBlock = some b → w.heap.size ≤ b) := Lib.hid (fun b hb => by
    have h1 := (World.ownsRow.lt (h := ho5) b hb).1
    have h2 := HGW.out.size
    have h3 := HG1.out.size
    omega)
  have HG5 := Lib.hid ((HG1.out.trans HGW.out).trans g5)
  obtain ⟨A5, c5, hs5, -, -⟩ := own_form ho5
  subst hs5
  have HEE : Hid (F.filter (fun s => !memS G s) = firmS E L) := Lib.hid (by rw [hF, HGG.out]; rfl)
  have HWS : Hid (w.heap.size ≤ W.heap.size) := Lib.hid (HG1.out.trans HGW.out).size
  obtain ⟨m5, hm5⟩ : ∃ m, m = F.length := ⟨_, rfl⟩
  rw [← hm5] at HDL HBS ⊢
  clear ho5 g5 hF hm5 p2
  go_wp2_with fail
  refine HDL.out.mono ?_
  rintro e w6 ⟨v6, rfl, ho6, hb6, k6⟩
  rw [HEE.out] at ho6
  have HO6 := Lib.hid ho6
  have HG6 := Lib.hid (Kp.gr_of HG5.out k6 HBS.out)
  obtain ⟨A6, c6, hs6, -, -⟩ := own_form ho6
  subst hs6
  obtain ⟨m6, hm6⟩ : ∃ m, m = (firmS E L).length := ⟨_, rfl⟩
  rw [← hm6] at HO6 ⊢
  clear ho6 hb6 k6 hm6
  go_wp2_with fail
  go_ret
  exact ⟨_, rfl, HO6.out.le HWS.out, HG6.out⟩
def lastS1 (has : Bool) (top : TG) : List ByteArray := if has then [top.e] else []
set_option maxRecDepth 100000 in
set_option maxHeartbeats 4000000 in
theorem lastF_any (k m : Int) (A1 A2 : Option Addr) (n1 c1 n2 c2 : Nat) (has : Bool) (st : Nat) (top : TG) (df : Bool) (w : World) (hz : top.e.size ≤ 281474976710656) :
    Calls Tryz.prog 53 #[.agg (fsc k m (.slice A1 n1 c1) (.slice A2 n2 c2) has st top df)] w fun e w' => RetStrsV (lastS1 has top) w e w' := by
  obtain ⟨W1, hW1, hg1, hs1⟩ : ∃ W, W = w.alloc (.cells (fsc k m (.slice A1 n1 c1) (.slice A2 n2 c2) has st top df) 39) ∧ Gr w W ∧ W.heap[w.heap.size]? = some (.cells (fsc k m (.slice A1 n1 c1) (.slice A2 n2 c2) has st top df) 39 (0, 0)) := ⟨_, rfl, (Gr.refl _).alloc _, heap_alloc _ _ _⟩
  obtain ⟨S, hS⟩ : ∃ S, S = w.heap.size := ⟨_, rfl⟩
  rw [← hS] at hs1
  have HG1 := Lib.hid hg1
  have p4 : W1.cell? ⟨S, 4, none⟩ = some (.bool has) := by rw [cell_of_block hs1]; rfl
  have p9 : W1.cell? ⟨S, 9, none⟩ = some (.string top.e) := by rw [cell_of_block hs1]; rfl
  cases has with
  | false =>
    clear hg1 hs1
    go_enter Tryz.func53, Tryz.ntmps53
    go_upto_region 1 with (fail)
    change Code.wp Tryz.prog _ _ _ (w.alloc (.cells (fsc k m (.slice A1 n1 c1) (.slice A2 n2 c2) false st top df) 39))
    rw [← hW1, ← hS]
    clear hW1 hS
    go_wp2_with fail
    go_ret
    exact ⟨_, rfl, SO.nil _ _, HG1.out⟩
  | true =>
    obtain ⟨W2, hW2, g2, hs2⟩ : ∃ W, W = W1.alloc (.cells #[.string top.e] 9) ∧ Gr W1 W ∧ SV W (.slice (some ⟨W1.heap.size, 0, none⟩) 1 1) [top.e] := ⟨_, rfl, (Gr.refl _).alloc _, sv_one W1 top.e⟩
    have HCP := Lib.hid (copiesF_any (.slice (some ⟨W1.heap.size, 0, none⟩) 1 1) [top.e] W2 hs2 (by simp) (fun x hx => by rw [List.mem_singleton.1 hx]; exact hz))
    have HG2 := Lib.hid (HG1.out.trans g2)
    rw [hW2] at HCP HG2
    clear hg1 hs1 g2 hs2 hW2
    go_enter Tryz.func53, Tryz.ntmps53
    go_upto_region 1 with (fail)
    change Code.wp Tryz.prog _ _ _ (w.alloc (.cells (fsc k m (.slice A1 n1 c1) (.slice A2 n2 c2) true st top df) 39))
    rw [← hW1, ← hS]
    clear hW1 hS
    go_wp2_with fail
    refine HCP.out.mono ?_
    rintro e w4 ⟨v4, rfl, ho4, g4⟩
    have HO4 := Lib.hid ho4
    obtain ⟨A4, c4, hs4, -, -⟩ := own_form ho4
    subst hs4
    clear ho4
    go_wp2_with fail
    go_ret
    exact ⟨_, rfl, HO4.out.le HG2.out.size, HG2.out.trans g4⟩
end Go.Proofs.YtlihcjlonafohaaGreat
namespace Go.Proofs.YtlihcjlonafohaaGreat
open Go.RowKit Go.Joins
set_option linter.unusedSimpArgs false
set_option linter.unusedVariables false

/-- A state with the fields alone that its kind names. -/
def namedS (s : FS) : FS :=
  if s.k = 1 ∨ s.k = 2 then ⟨s.k, s.n, [], [], false, 0, tg0, false⟩
  else if s.k = 3 ∨ s.k = 6 ∨ s.k = 8 then ⟨s.k, 0, [], s.live, false, 0, tg0, false⟩
  else if s.k = 4 then ⟨s.k, 0, s.ever, s.live, false, 0, tg0, false⟩
  else if s.k = 5 then ⟨s.k, 0, [], [], s.has, s.st, s.top, false⟩
  else ⟨s.k, 0, [], s.live, false, 0, tg0, s.df⟩
theorem GV.nil (w : World) : GV w (.slice none 0 0) [] := (GOw.nil w 0).gv
theorem SV.nilF (w : World) : SV w (.slice none 0 0) [] := (SO.nil w 0).sv
theorem named_any (s : FS) (v : Value) (hk : knownB s.k = true) (w : World) (h : RV w v s) :
    Calls Tryz.prog 46 #[v] w fun e w' => ∃ v', e = .returned v' ∧ RV w' v' (namedS s) ∧ Gr w w' := by
  obtain ⟨ve, vl, rfl, he, hl⟩ := h
  obtain ⟨A1, n1, c1, rfl⟩ := sv_form3 he
  obtain ⟨A2, n2, c2, rfl⟩ := gv_form hl
  obtain ⟨k, n, E, L, has, st, top, df⟩ := s
  unfold knownB at hk
  rw [Bool.and_eq_true, decide_eq_true_eq, decide_eq_true_eq] at hk
  simp only at hk he hl ⊢
  obtain rfl | rfl | rfl | rfl | rfl | rfl | rfl | rfl : k = 1 ∨ k = 2 ∨ k = 3 ∨ k = 4 ∨ k = 5 ∨ k = 6 ∨ k = 7 ∨ k = 8 := by omega
  · exact (named1_any n A1 A2 n1 c1 n2 c2 has st top df w).mono fun e w' ⟨h1, h2⟩ => ⟨_, h1, ⟨_, _, rfl, SV.nilF _, GV.nil _⟩, h2⟩
  · exact (named2_any n A1 A2 n1 c1 n2 c2 has st top df w).mono fun e w' ⟨h1, h2⟩ => ⟨_, h1, ⟨_, _, rfl, SV.nilF _, GV.nil _⟩, h2⟩
  · exact (named3_any n A1 A2 n1 c1 n2 c2 has st top df w).mono fun e w' ⟨h1, h2⟩ => ⟨_, h1, ⟨_, _, rfl, SV.nilF _, hl.gr h2⟩, h2⟩
  · exact (named4_any n A1 A2 n1 c1 n2 c2 has st top df w).mono fun e w' ⟨h1, h2⟩ => ⟨_, h1, ⟨_, _, rfl, he.gr h2, hl.gr h2⟩, h2⟩
  · exact (named5_any n A1 A2 n1 c1 n2 c2 has st top df w).mono fun e w' ⟨h1, h2⟩ => ⟨_, h1, ⟨_, _, rfl, SV.nilF _, GV.nil _⟩, h2⟩
  · exact (named6_any n A1 A2 n1 c1 n2 c2 has st top df w).mono fun e w' ⟨h1, h2⟩ => ⟨_, h1, ⟨_, _, rfl, SV.nilF _, hl.gr h2⟩, h2⟩
  · exact (named7_any n A1 A2 n1 c1 n2 c2 has st top df w).mono fun e w' ⟨h1, h2⟩ => ⟨_, h1, ⟨_, _, rfl, SV.nilF _, hl.gr h2⟩, h2⟩
  · exact (named8_any n A1 A2 n1 c1 n2 c2 has st top df w).mono fun e w' ⟨h1, h2⟩ => ⟨_, h1, ⟨_, _, rfl, SV.nilF _, hl.gr h2⟩, h2⟩
theorem done_any (t : TX) (A : Option Addr) (n c : Nat) (o : TO) (g : TG) (s : FS) (A1 A2 : Option Addr) (n1 c1 n2 c2 : Nat) (w0 w : World) (hk : knownB s.k = true) (h0 : Gr w0 w) (he : SO w w0.heap.size (.slice A1 n1 c1) s.ever) (hl : GOw w w0.heap.size (.slice A2 n2 c2) s.live) (hft : FitD s.ever s.live o) :
    Calls Tryz.prog 48 #[.agg (decs t (.slice A n c) o g), .agg (fsc s.k s.n (.slice A1 n1 c1) (.slice A2 n2 c2) s.has s.st s.top s.df)] w fun e w' => RetD w0 (doneS t o g s) e w' := by
  obtain ⟨k, m, E, L, has, st, top, df⟩ := s
  unfold knownB at hk
  rw [Bool.and_eq_true, decide_eq_true_eq, decide_eq_true_eq] at hk
  simp only at hk he hl hft ⊢
  obtain rfl | rfl | rfl | rfl | rfl | rfl | rfl | rfl : k = 1 ∨ k = 2 ∨ k = 3 ∨ k = 4 ∨ k = 5 ∨ k = 6 ∨ k = 7 ∨ k = 8 := by omega
  · exact done1_any t A n c o g m A1 A2 n1 c1 n2 c2 E L has st top df w0 w h0 he hl hft
  · exact done2_any t A n c o g m A1 A2 n1 c1 n2 c2 E L has st top df w0 w h0 he hl hft
  · exact done3_any t A n c o g m A1 A2 n1 c1 n2 c2 E L has st top df w0 w h0 he hl hft
  · by_cases h : o.kind = 4
    · have e : doneS t o g ⟨4, m, E, L, has, st, top, df⟩ = ⟨4, m, intoT o.elem E, mrkL t o g 5 4 L, has, st, top, df⟩ := by simp [doneS, h]
      rw [e]
      exact done4a_any t A n c o g m A1 A2 n1 c1 n2 c2 E L has st top df h w0 w h0 he hl hft
    · have e : doneS t o g ⟨4, m, E, L, has, st, top, df⟩ = ⟨4, m, E, mrkL t o g 5 4 L, has, st, top, df⟩ := by simp [doneS, h]
      rw [e]
      exact done4n_any t A n c o g m A1 A2 n1 c1 n2 c2 E L has st top df h w0 w h0 he hl hft
  · by_cases h : o.kind = 6
    · rcases hlt : latB t g has st top with _ | _
      · have e : doneS t o g ⟨5, m, E, L, has, st, top, df⟩ = ⟨5, m, E, L, has, st, top, df⟩ := by simp [doneS, h, hlt]
        rw [e]
        exact done5e_any t A n c o g m A1 A2 n1 c1 n2 c2 E L has st top df h hlt w0 w h0 he hl hft
      · have e : doneS t o g ⟨5, m, E, L, has, st, top, df⟩ = ⟨5, m, E, L, true, t.stamp, g, df⟩ := by simp [doneS, h, hlt]
        rw [e]
        exact done5y_any t A n c o g m A1 A2 n1 c1 n2 c2 E L has st top df h hlt w0 w h0 he hl hft
    · have e : doneS t o g ⟨5, m, E, L, has, st, top, df⟩ = ⟨5, m, E, L, has, st, top, df⟩ := by simp [doneS, h]
      rw [e]
      exact done5n_any t A n c o g m A1 A2 n1 c1 n2 c2 E L has st top df h w0 w h0 he hl hft
  · exact done6_any t A n c o g m A1 A2 n1 c1 n2 c2 E L has st top df w0 w h0 he hl hft
  · cases df with
    | false =>
      exact done7f_any t A n c o g m A1 A2 n1 c1 n2 c2 E L has st top w0 w h0 he hl hft
    | true =>
      by_cases h : o.kind = 8
      · have e : doneS t o g ⟨7, m, E, L, has, st, top, true⟩ = ⟨7, m, E, mrkL t o g 7 8 L, has, st, top, false⟩ := by simp [doneS, h]
        rw [e]
        exact done7o_any t A n c o g m A1 A2 n1 c1 n2 c2 E L has st top h w0 w h0 he hl hft
      · have e : doneS t o g ⟨7, m, E, L, has, st, top, true⟩ = ⟨7, m, E, mrkL t o g 7 8 L, has, st, top, true⟩ := by simp [doneS, h]
        rw [e]
        exact done7n_any t A n c o g m A1 A2 n1 c1 n2 c2 E L has st top h w0 w h0 he hl hft
  · exact done8_any t A n c o g m A1 A2 n1 c1 n2 c2 E L has st top df w0 w h0 he hl hft
/-- What lies below B stays; there may be fewer blocks than before, but B of them. -/
structure StayB (B : Nat) (w w' : World) : Prop where
  os : w'.os = w.os
  tape : w'.tape = w.tape
  output : w'.output = w.output
  size : B ≤ w'.heap.size
  block : ∀ k, k < B → w'.heap[k]? = w.heap[k]?
theorem StayB.gr {B : Nat} {a w w' : World} (h : StayB B w w') (g : Gr a w) (hB : a.heap.size ≤ B) : Gr a w' :=
  ⟨h.os.trans g.os, h.tape.trans g.tape, h.output.trans g.output, Nat.le_trans hB h.size, fun k hk => (h.block k (Nat.lt_of_lt_of_le hk hB)).trans (g.block k hk)⟩
/-- The answer of done over any base. -/
def RetB (B : Nat) (s : FS) (w : World) (e : Ending) (w' : World) : Prop := ∃ v, e = .returned v ∧ FV w' B v s ∧ StayB B w w'
theorem done_at (t : TX) (A : Option Addr) (n c : Nat) (o : TO) (g : TG) (s : FS) (A1 A2 : Option Addr) (n1 c1 n2 c2 : Nat) (B : Nat) (w : World) (hk : knownB s.k = true) (hB : B ≤ w.heap.size) (he : SO w B (.slice A1 n1 c1) s.ever) (hl : GOw w B (.slice A2 n2 c2) s.live) (hft : FitD s.ever s.live o) :
    Calls Tryz.prog 48 #[.agg (decs t (.slice A n c) o g), .agg (fsc s.k s.n (.slice A1 n1 c1) (.slice A2 n2 c2) s.has s.st s.top s.df)] w fun e w' => RetB B (doneS t o g s) w e w' := by
  obtain ⟨w0, hw0⟩ : ∃ w0 : World, w0 = { w with heap := w.heap.extract 0 B } := ⟨_, rfl⟩
  have hs : w0.heap.size = B := by rw [hw0]; simp only [Array.size_extract]; omega
  have hb : ∀ k, k < B → w.heap[k]? = w0.heap[k]? := fun k hk => by
    rw [hw0]
    simp only [Array.getElem?_extract]
    rw [if_pos (by omega), Nat.zero_add]
  have h0 : Gr w0 w := ⟨by rw [hw0], by rw [hw0], by rw [hw0], by rw [hs]; exact hB, fun k hk => hb k (by rw [← hs]; exact hk)⟩
  rw [← hs] at he hl
  refine (done_any t A n c o g s A1 A2 n1 c1 n2 c2 w0 w hk h0 he hl hft).mono fun e w' ⟨v, h1, h2, h3⟩ => ⟨v, h1, by rw [← hs]; exact h2, ?_⟩
  have h3 : Below w0.heap.size w0 w' := h3
  have hz := h3.size
  rw [hs] at h3 hz
  exact ⟨h3.os.trans h0.os.symm, h3.tape.trans h0.tape.symm, h3.output.trans h0.output.symm, hz, fun k hk => (h3.block k hk).trans (hb k hk).symm⟩
/-- The state behind the first j operations of a transaction. -/
def stepTo (key : ByteArray) (t : TX) (s : FS) : Nat → FS
  | 0 => namedS s
  | j + 1 => match t.ops[j]? with
    | some o => if eqS o.key key = true then doneS t o (tagOf t j o) (stepTo key t s j) else stepTo key t s j
    | none => stepTo key t s j
def applyS (key : ByteArray) (t : TX) (s : FS) : FS := stepTo key t s t.ops.length
/-- Numbers that a state's lists keep. -/
structure FitM (m : Nat) (s : FS) : Prop where
  live : s.live.length ≤ m
  ever : s.ever.length ≤ m
  sz : ∀ x ∈ s.ever, x.size ≤ 281474976710656
  tz : ∀ x ∈ s.live, x.e.size ≤ 281474976710656
  top : s.top.e.size ≤ 281474976710656
theorem mrk1_sub {t : TX} {o : TO} {g : TG} {c : Int} {L : List TG} : ∀ x ∈ mrk1 t o g c L, x ∈ L := fun x hx => by
  unfold mrk1 at hx
  split at hx
  · exact (List.mem_filter.1 hx).1
  · exact hx
theorem mrk1_le (t : TX) (o : TO) (g : TG) (c : Int) (L : List TG) : (mrk1 t o g c L).length ≤ L.length := by
  unfold mrk1
  split
  · exact List.length_filter_le _ _
  · exact Nat.le_refl _
theorem mrkL_le (t : TX) (o : TO) (g : TG) (a c : Int) (L : List TG) : (mrkL t o g a c L).length ≤ L.length + 1 := by
  have := mrk1_le t o g c L
  unfold mrkL
  split
  · have := List.length_insertIdx_le_succ (l := mrk1 t o g c L) (x := g) (i := gckN (fun x => geG x g) (mrk1 t o g c L))
    omega
  · omega
theorem mrkL_mem {t : TX} {o : TO} {g : TG} {a c : Int} {L : List TG} : ∀ x ∈ mrkL t o g a c L, x = g ∨ x ∈ L := fun x hx => by
  unfold mrkL at hx
  split at hx
  · rw [List.mem_insertIdx (gckN_le _ _)] at hx
    rcases hx with hx | hx
    · exact .inl hx
    · exact .inr (mrk1_sub x hx)
  · exact .inr (mrk1_sub x hx)
theorem FitM.le {m m' : Nat} {s : FS} (h : FitM m s) (hm : m ≤ m') : FitM m' s := ⟨Nat.le_trans h.live hm, Nat.le_trans h.ever hm, h.sz, h.tz, h.top⟩
theorem FitM.named {m : Nat} {s : FS} (h : FitM m s) : FitM m (namedS s) := by
  have z : (tg0.e).size ≤ 281474976710656 := by decide
  have n0 : ∀ x ∈ ([] : List ByteArray), x.size ≤ 281474976710656 := fun _ hx => absurd hx (by simp)
  have n1 : ∀ x ∈ ([] : List TG), x.e.size ≤ 281474976710656 := fun _ hx => absurd hx (by simp)
  unfold namedS
  split
  · exact ⟨Nat.zero_le _, Nat.zero_le _, n0, n1, z⟩
  split
  · exact ⟨h.live, Nat.zero_le _, n0, h.tz, z⟩
  split
  · exact ⟨h.live, h.ever, h.sz, h.tz, z⟩
  split
  · exact ⟨Nat.zero_le _, Nat.zero_le _, n0, n1, h.top⟩
  · exact ⟨h.live, Nat.zero_le _, n0, h.tz, z⟩
theorem FitM.done {m : Nat} {s : FS} (h : FitM m s) (t : TX) (k : Nat) {o : TO} (ho : o.elem.size ≤ 281474976710656) : FitM (m + 1) (doneS t o (tagOf t k o) s) := by
  have hl : ∀ a c, (mrkL t o (tagOf t k o) a c s.live).length ≤ m + 1 := fun a c => Nat.le_trans (mrkL_le _ _ _ _ _ _) (Nat.succ_le_succ h.live)
  have ht : ∀ a c, ∀ x ∈ mrkL t o (tagOf t k o) a c s.live, x.e.size ≤ 281474976710656 := fun a c x hx => by
    rcases mrkL_mem x hx with rfl | hx
    · exact ho
    · exact h.tz x hx
  have he : s.ever.length ≤ m + 1 := Nat.le_succ_of_le h.ever
  have hv : s.live.length ≤ m + 1 := Nat.le_succ_of_le h.live
  unfold doneS
  split
  · exact ⟨hv, he, h.sz, h.tz, h.top⟩
  split
  · exact ⟨hl _ _, he, h.sz, ht _ _, h.top⟩
  split
  · refine ⟨hl _ _, ?_, ?_, ht _ _, h.top⟩
    · simp only
      split
      · exact Nat.le_trans (intoT_len _ _) (Nat.succ_le_succ h.ever)
      · exact he
    · simp only
      split
      · intro x hx
        rw [intoT_ins, mem_insRs] at hx
        rcases hx with rfl | hx
        · exact ho
        · exact h.sz x hx
      · exact h.sz
  split
  · split
    · exact ⟨hv, he, h.sz, h.tz, ho⟩
    · exact ⟨hv, he, h.sz, h.tz, h.top⟩
  split
  · exact ⟨hl _ _, he, h.sz, ht _ _, h.top⟩
  split
  · exact ⟨hl _ _, he, h.sz, ht _ _, h.top⟩
  · exact ⟨hv, he, h.sz, h.tz, h.top⟩
theorem doneS_k (t : TX) (o : TO) (g : TG) (s : FS) : (doneS t o g s).k = s.k := by
  unfold doneS
  repeat' split
  all_goals rfl
theorem namedS_k (s : FS) : (namedS s).k = s.k := by
  unfold namedS
  repeat' split
  all_goals rfl
theorem stepTo_k (key : ByteArray) (t : TX) (s : FS) : ∀ j, (stepTo key t s j).k = s.k
  | 0 => namedS_k s
  | j + 1 => by
    have ih := stepTo_k key t s j
    unfold stepTo
    split
    · split
      · rw [doneS_k, ih]
      · exact ih
    · exact ih
theorem stepTo_fit (key : ByteArray) {t : TX} {s : FS} {m : Nat} (h : FitM m s) (hs : ∀ o ∈ t.ops, o.elem.size ≤ 281474976710656) : ∀ j, FitM (m + j) (stepTo key t s j)
  | 0 => h.named
  | j + 1 => by
    have ih := stepTo_fit key h hs j
    unfold stepTo
    split
    · next o ho =>
      split
      · exact ih.done t j (hs o (List.mem_of_getElem? ho))
      · exact ih.le (by omega)
    · exact ih.le (by omega)
theorem stepTo_yes {key : ByteArray} {t : TX} {s : FS} {j : Nat} {o : TO} (h : t.ops[j]? = some o) (hk : eqS o.key key = true) : stepTo key t s (j + 1) = doneS t o (tagOf t j o) (stepTo key t s j) := by
  show (match t.ops[j]? with | some o => if eqS o.key key = true then doneS t o (tagOf t j o) (stepTo key t s j) else stepTo key t s j | none => stepTo key t s j) = _
  rw [h]
  exact if_pos hk
theorem stepTo_no {key : ByteArray} {t : TX} {s : FS} {j : Nat} {o : TO} (h : t.ops[j]? = some o) (hk : eqS o.key key = false) : stepTo key t s (j + 1) = stepTo key t s j := by
  show (match t.ops[j]? with | some o => if eqS o.key key = true then doneS t o (tagOf t j o) (stepTo key t s j) else stepTo key t s j | none => stepTo key t s j) = _
  rw [h]
  exact if_neg (by rw [hk]; decide)
end Go.Proofs.YtlihcjlonafohaaGreat
