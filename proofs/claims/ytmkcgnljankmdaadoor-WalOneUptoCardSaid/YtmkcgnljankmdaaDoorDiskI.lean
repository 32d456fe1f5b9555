/- Walks: a crash, the document's. -/
import Derived.Test.YtmkcgnljankmdaaDoorDiskH
namespace Go.Proofs.YtmkcgnljankmdaaDoor
open Go.RowKit

def RCrashRel (L : List F) (K : List Int) (v1 : Value) (bx : Nat) (w : World) (i : Value) (wr : World) : Prop :=
  ∃ k : Nat, k ≤ L.length ∧ i = .int .i64 k ∧ FO wr (w.heap.size + 1 + 1) v1 (mix L K k) ∧ Gr w wr ∧ bx < wr.heap.size ∧ wr.cell? ⟨bx, 0, none⟩ = some v1 ∧ wr.cell? ⟨w.heap.size + 1, 0, none⟩ = some (.slice none 0 0) ∧ wr.frozen? ⟨w.heap.size + 1, 0, none⟩ = false
theorem RCrashRel.drew {L : List F} {K : List Int} {v1 : Value} {bx : Nat} {w wr : World} {i : Value} (h : RCrashRel L K v1 bx w i wr) : RCrashRel L K v1 bx w i wr.drew := by
  obtain ⟨k, h1, h2, h3, h4, h5, h6, h7, h8⟩ := h
  exact ⟨k, h1, h2, h3.gr (Gr.refl _).drew, h4.drew, h5, h6, h7, h8⟩
theorem rcrashRel_step {L : List F} {K : List Int} {g n c k a bx : Nat} {f : F} {w wr0 wr : World} (hkL : k < L.length) (hf : f = L[k]) (ha : a = amount f K k) (hG : Gr wr0 wr)
    (hown : FO wr0 (w.heap.size + 1 + 1) (.slice (some ⟨g, 0, none⟩) n c) (mix L K k)) (hgr : Gr w wr0) (hgb : g < bx) (hB : bx < wr0.heap.size)
    (hb0 : wr0.cell? ⟨bx, 0, none⟩ = some (.slice (some ⟨g, 0, none⟩) n c)) (hb1 : wr0.cell? ⟨w.heap.size + 1, 0, none⟩ = some (.slice none 0 0)) (hfb : wr0.frozen? ⟨w.heap.size + 1, 0, none⟩ = false) :
    RCrashRel L K (.slice (some ⟨g, 0, none⟩) n c) bx w (.int .i64 ((k : Int) + 1)) ((wr.setCell ⟨g, k * 3 + 1, none⟩ (.string (f.kept ++ f.loose.extract 0 a))).setCell ⟨g, k * 3 + 2, none⟩ (.string ⟨#[]⟩)) := by
  have hBg := hown.len.2.2.2.1
  have hm : k < (mix L K k).length := by rw [mix_len]; exact hkL
  have hp := (hown.gr hG).put2 hm (f.kept ++ f.loose.extract 0 a) ⟨#[]⟩
  rw [mix_at hkL] at hp
  have he : (⟨L[k].name, f.kept ++ f.loose.extract 0 a, ⟨#[]⟩⟩ : F) = crashAt L[k] K k := by
    unfold crashAt
    rw [ha, hf]
  rw [he, ← mix_succ hkL] at hp
  refine ⟨k + 1, by omega, by go_num, hp, Below.setCell (Below.setCell (hgr.trans hG) (p := ⟨g, k * 3 + 1, none⟩) (by show w.heap.size ≤ g; omega) _) (p := ⟨g, k * 3 + 2, none⟩) (by show w.heap.size ≤ g; omega) _, by have := hG.size; simp [World.setCell]; omega,
    setCell_there (setCell_there (hG.cell hb0) (by omega)) (by omega), setCell_there (setCell_there (hG.cell hb1) (by omega)) (by omega), by rw [World.frozen?_setCell, World.frozen?_setCell]; exact hG.frozen (show w.heap.size + 1 < _ by have := hown.len.2.2.2.2; omega) hfb⟩
theorem rbox (f : F) (g bx k n k1 : Nat) (wr : World) (hb0 : wr.cell? ⟨bx, 0, none⟩ = some (.slice (some ⟨g, 0, none⟩) n k1)) (cc1 : wr.cell? ⟨g, k * 3 + 1, none⟩ = some (.string f.kept)) (cc2 : wr.cell? ⟨g, k * 3 + 2, none⟩ = some (.string f.loose))
    (hg : g < wr.heap.size) (y0 : wr.frozen? ⟨g, k * 3, none⟩ = false) (y1 : wr.frozen? ⟨g, k * 3 + 1, none⟩ = false) (y2 : wr.frozen? ⟨g, k * 3 + 2, none⟩ = false) :
    ∃ W3, W3 = wr.alloc (.cells #[.string f.name, .string f.kept, .string f.loose] 46) ∧ W3.cell? ⟨wr.heap.size, 0, none⟩ = some (.string f.name) ∧ W3.cell? ⟨wr.heap.size, 1, none⟩ = some (.string f.kept) ∧ W3.cell? ⟨wr.heap.size, 2, none⟩ = some (.string f.loose)
              ∧ W3.cell? ⟨bx, 0, none⟩ = some (.slice (some ⟨g, 0, none⟩) n k1) ∧ W3.cell? ⟨g, k * 3 + 1, none⟩ = some (.string f.kept) ∧ W3.cell? ⟨g, k * 3 + 2, none⟩ = some (.string f.loose)
              ∧ W3.frozen? ⟨g, k * 3, none⟩ = false ∧ W3.frozen? ⟨g, k * 3 + 1, none⟩ = false ∧ W3.frozen? ⟨g, k * 3 + 2, none⟩ = false ∧ Gr wr W3 := by
  have G := gr_box wr (.cells #[.string f.name, .string f.kept, .string f.loose] 46)
  exact ⟨_, rfl, by simp, by simp, by simp, G.cell hb0, G.cell cc1, G.cell cc2, G.frozen hg y0, G.frozen hg y1, G.frozen hg y2, G⟩
theorem extract_all (x : ByteArray) : x.extract 0 x.size = x := ByteArray.extract_zero_size

set_option maxRecDepth 100000 in
set_option maxHeartbeats 2000000 in
theorem rcrash_any (v vk : Value) (L : List F) (K : List Int) (w : World) (hv : FV w v L) (hk : IV w vk K) (hf : Fit L) (hlen : L.length * 48 ≤ 140737488355328) :
    Calls Tryd.prog 18 #[.agg #[v], vk] w fun e w' => RetDisk (crash L K) w e w' := by
  obtain ⟨A, c, hva, _⟩ := id hv
  obtain ⟨Ak, ck, hvk, kl, kc, k3⟩ := hk
  have HV := Lib.hid hv
  have HFit := Lib.hid hf
  have HKK := Lib.hid k3
  have hkc63 : ck ≤ 9223372036854775807 := kc
  subst hva hvk
  clear hv hf k3 kc
  have HC := Lib.hid (fun (w1 : World) (g : Gr w w1) => rcopy_any _ L w1 (HV.out.gr g) hlen)
  obtain ⟨n, hn⟩ : ∃ n, n = L.length := ⟨_, rfl⟩
  obtain ⟨m, hm⟩ : ∃ n, n = K.length := ⟨_, rfl⟩
  have HN := Lib.hid hn
  have HM := Lib.hid hm
  rw [← hn] at HC HV
  rw [← hn, ← hm]
  rw [← hm] at kl
  clear hn hm
  go_enter Tryd.func18, Tryd.ntmps18
  go_wp2_with fail
  refine (HC.out _ ((gr_box w _).alloc _)).mono ?_
  rintro e w1 ⟨v1, rfl, hown, g1⟩
  have G1 : Gr w w1 := ((gr_box w _).alloc _).trans g1
  have c1 : w1.cell? ⟨w.heap.size + 1, 0, none⟩ = some (.slice none 0 0) := g1.cell (by simp)
  have f1 : w1.frozen? ⟨w.heap.size + 1, 0, none⟩ = false := g1.frozen (by simp) (by simp)
  have hB : w.heap.size + 1 < w1.heap.size := by have := g1.size; simp at this; omega
  have hlt1 : ∀ b, v1.ownBlock = some b → b < w1.heap.size := fun b hb => (World.ownsRow.lt hown b hb).2
  obtain ⟨A1, k1, hv1, hk1, hk2⟩ := hown.form
  rw [← HN.out] at hv1 hk1
  subst hv1
  have HO : Hid (FO w1 (w.heap.size + 1 + 1) (.slice A1 n k1) L) := Lib.hid (hown.le (by simp))
  have HL1 := Lib.hid hlt1
  clear hown g1 hlt1
  obtain ⟨bx, hbx⟩ : ∃ b, b = w1.heap.size := ⟨_, rfl⟩
  have HST : Hid (RCrashRel L K (.slice A1 n k1) bx w (.int .i64 0) (w1.alloc (.cells #[.slice A1 n k1] 24))) := by
    refine ⟨0, Nat.zero_le _, rfl, by rw [mix_zero]; exact HO.out.gr (gr_box w1 _), G1.alloc _, by rw [hbx]; simp, by rw [hbx]; simp, (gr_box w1 _).cell c1, (gr_box w1 _).frozen hB f1⟩
  rw [← hbx] at HL1 hB
  have HBX := Lib.hid hbx
  clear c1 f1 G1 hbx
  go_wp2_with fail
  rw [← HBX.out]
  go_loopw [6] (fun i wr => RCrashRel L K (.slice A1 n k1) bx w i wr) (fun i _ => n - (intOf i).toNat)
  case atStart => exact HST.out
  case round =>
    obtain ⟨k, hk, rfl, hown, hgr, hBr, hb0, hb1, hfb⟩ := hrel
    rw [← HN.out] at hk
    have HOW := Lib.hid hown
    clear hown HST HO
    by_cases hlt : k < n
    · have hkL : k < L.length := by rw [← HN.out]; exact hlt
      have hkM : k < (mix L K k).length := by rw [mix_len]; exact hkL
      obtain ⟨g, cc, hvv⟩ := HOW.out.addr hkM
      injection hvv with h1 h2 h3
      subst h1 h3
      clear h2
      have hgb : g < bx := HL1.out g rfl
      obtain ⟨cc0, cc1, cc2⟩ := HOW.out.at_ hkM
      rw [mix_at hkL] at cc0 cc1 cc2
      have hfit := HFit.out _ (List.getElem_mem hkL)
      unfold FitF F.size at hfit
      have hs := hfit.2
      obtain ⟨f, hfe⟩ : ∃ f, f = L[k] := ⟨_, rfl⟩
      rw [← hfe] at cc0 cc1 cc2 hs
      have hgl := HOW.out.len.2.2.2.2
      have HFR := Lib.hid HOW.out.free
      have z1 := HOW.out.free (k * 3 + 1)
      have z2 := HOW.out.free (k * 3 + 2)
      clear hfit
      have HFE := Lib.hid hfe
      clear hfe
      obtain ⟨a, ha⟩ : ∃ a, a = amount f K k := ⟨_, rfl⟩
      have hal : a ≤ f.loose.size := by rw [ha]; exact Nat.min_le_right _ _
      have hez : (f.loose.extract 0 a).size = a := by rw [ByteArray.size_extract]; omega
      have HS := Lib.hid (fun W (q : Gr wr W) => rcrashRel_step hkL HFE.out ha q HOW.out hgr hgb hBr hb0 hb1 hfb)
      have HAM := Lib.hid ha
      clear ha
      by_cases hkm : k < m
      · obtain ⟨b, off, rfl, hkc0, hk1', hk2'⟩ := HKK.out k (by rw [← HM.out]; exact hkm)
        have hkc := hgr.cell hkc0
        obtain ⟨q, hq⟩ : ∃ q, q = K[k]'(by rw [← HM.out]; exact hkm) := ⟨_, rfl⟩
        have hmm : (a : Int) = min (max q 0) (f.loose.size : Int) := by
          have e : K.getD k 0 = q := by rw [hq, List.getD_eq_getElem?_getD, List.getElem?_eq_getElem]; rfl
          rw [HAM.out]
          unfold amount
          rw [e]
          omega
        rw [← hq] at hkc hk1' hk2'
        clear hkc0 hq
        by_cases hq0 : q < 0
        · have ha0 : a = 0 := by omega
          subst ha0
          have e0 := fun x => append_ext0 x f.loose
          simp only [e0] at HS
          clear hmm e0
          go_wp2_with fail
          obtain ⟨W3, hW3, b0, b1, b2, r0, r1, r2, z0, z3, z4, G3⟩ := rbox f g bx k n k1 wr hb0 cc1 cc2 hgl (HFR.out _) (HFR.out _) (HFR.out _)
          rw [← hW3]
          clear hW3 cc0 cc1 cc2 hb0 hb1 hfb z1 z2
          go_region
          have HS2 := Lib.hid (HS.out W3 G3)
          clear HS b0 b1 b2 r0 r1 r2 z0 z3 z4
          go_wp2
          go_roundw
          case rel => exact HS2.out.drew
          case measure => simp [intOf]; omega
        · obtain ⟨p, rfl⟩ := Int.eq_ofNat_of_zero_le (show 0 ≤ q by omega)
          by_cases hqs : f.loose.size < p
          · have ha0 : a = f.loose.size := by omega
            subst ha0
            simp only [extract_all] at HS
            clear hmm
            go_wp2_with fail
            obtain ⟨W3, hW3, b0, b1, b2, r0, r1, r2, z0, z3, z4, G3⟩ := rbox f g bx k n k1 wr hb0 cc1 cc2 hgl (HFR.out _) (HFR.out _) (HFR.out _)
            rw [← hW3]
            clear hW3 cc0 cc1 cc2 hb0 hb1 hfb z1 z2
            go_region
            have HS2 := Lib.hid (HS.out W3 G3)
            clear HS b0 b1 b2 r0 r1 r2 z0 z3 z4
            go_wp2
            go_roundw
            case rel => exact HS2.out.drew
            case measure => simp [intOf]; omega
          · have ha0 : p = a := by omega
            subst ha0
            clear hmm
            go_wp2_with fail
            obtain ⟨W3, hW3, b0, b1, b2, r0, r1, r2, z0, z3, z4, G3⟩ := rbox f g bx k n k1 wr hb0 cc1 cc2 hgl (HFR.out _) (HFR.out _) (HFR.out _)
            rw [← hW3]
            clear hW3 cc0 cc1 cc2 hb0 hb1 hfb z1 z2
            go_region
            have HS2 := Lib.hid (HS.out W3 G3)
            clear HS b0 b1 b2 r0 r1 r2 z0 z3 z4
            go_wp2
            go_roundw
            case rel => exact HS2.out.drew
            case measure => simp [intOf]; omega
      · have ha0 : a = 0 := by
          have e : K.getD k 0 = 0 := by rw [List.getD_eq_getElem?_getD, List.getElem?_eq_none (by rw [← HM.out]; omega)]; rfl
          rw [HAM.out]
          unfold amount
          rw [e]
          exact Nat.zero_min _
        subst ha0
        have e0 := fun x => append_ext0 x f.loose
        simp only [e0] at HS
        clear e0
        go_wp2_with fail
        obtain ⟨W3, hW3, b0, b1, b2, r0, r1, r2, z0, z3, z4, G3⟩ := rbox f g bx k n k1 wr hb0 cc1 cc2 hgl (HFR.out _) (HFR.out _) (HFR.out _)
        rw [← hW3]
        clear hW3 cc0 cc1 cc2 hb0 hb1 hfb z1 z2
        go_region
        have HS2 := Lib.hid (HS.out W3 G3)
        clear HS b0 b1 b2 r0 r1 r2 z0 z3 z4
        go_wp2
        go_roundw
        case rel => exact HS2.out.drew
        case measure => simp [intOf]; omega
    · have hall := mix_all L K (k := k) (by rw [← HN.out]; omega)
      rw [hall] at HOW
      clear hall
      go_wp2
      refine bodyPost_ret (v := .agg #[.slice A1 n k1]) (by simp [results, Tryd.results18, go_sem, hb1]) rfl ⟨_, rfl, ?_, ?_⟩
      · exact own_le (ownsRow_setCell_below HOW.out (a := ⟨w.heap.size + 1, 0, none⟩) (by show w.heap.size + 1 < _; omega) _) (by omega)
      · exact Below.setCell hgr (show w.heap.size ≤ w.heap.size + 1 by omega) _
end Go.Proofs.YtmkcgnljankmdaaDoor
