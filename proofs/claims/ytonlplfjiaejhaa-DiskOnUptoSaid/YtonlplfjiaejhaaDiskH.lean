/- Walks: a crash, the program's. -/
import Derived.Test.YtonlplfjiaejhaaDiskG
namespace Go.Proofs.Ytonlplfjiaejhaa
open Go.RowKit

/-- The slice value v reads as the numbers K. -/
def IV (w : World) (v : Value) (K : List Int) : Prop :=
  ∃ A c, v = .slice A K.length c ∧ K.length ≤ c ∧ c ≤ maxLen ∧ ∀ j (hj : j < K.length), ∃ b off, A = some ⟨b, off, none⟩ ∧ w.cell? ⟨b, off + j, none⟩ = some (.int .i64 K[j]) ∧ -9223372036854775808 ≤ K[j] ∧ K[j] ≤ 9223372036854775807
theorem IV.gr {w w' : World} {v : Value} {K : List Int} (h : IV w v K) (g : Gr w w') : IV w' v K := by
  obtain ⟨A, c, hv, h1, h2, h3⟩ := h
  refine ⟨A, c, hv, h1, h2, fun j hj => ?_⟩
  obtain ⟨b, off, ha, hc, hb⟩ := h3 j hj
  exact ⟨b, off, ha, g.cell hc, hb⟩

/-- The first k files behind the crash, the others ahead of it. -/
def mix (L : List F) (K : List Int) (k : Nat) : List F := L.mapIdx fun i f => if i < k then crashAt f K i else f
theorem mix_len (L : List F) (K : List Int) (k : Nat) : (mix L K k).length = L.length := by unfold mix; rw [List.length_mapIdx]
theorem mix_get {L : List F} {K : List Int} {k j : Nat} (h : j < (mix L K k).length) (h2 : j < L.length) : (mix L K k)[j] = if j < k then crashAt L[j] K j else L[j] := by
  show (List.mapIdx (fun i f => if i < k then crashAt f K i else f) L)[j]'(by rw [List.length_mapIdx]; exact h2) = _
  rw [List.getElem_mapIdx]
theorem mix_zero (L : List F) (K : List Int) : mix L K 0 = L := by
  apply List.ext_getElem
  · rw [mix_len]
  · intro j h1 h2
    rw [mix_get h1 h2, if_neg (by omega)]
theorem mix_all (L : List F) (K : List Int) {k : Nat} (h : L.length ≤ k) : mix L K k = crash L K := by
  apply List.ext_getElem
  · rw [mix_len, crash_len]
  · intro j h1 h2
    have h3 : j < L.length := by rw [mix_len] at h1; exact h1
    rw [mix_get h1 h3, if_pos (by omega), crash_at h3]
theorem mix_at {L : List F} {K : List Int} {k : Nat} (h : k < L.length) : (mix L K k)[k]'(by rw [mix_len]; exact h) = L[k] := by
  rw [mix_get _ h, if_neg (by omega)]
theorem mix_succ {L : List F} {K : List Int} {k : Nat} (h : k < L.length) : mix L K (k + 1) = (mix L K k).set k (crashAt L[k] K k) := by
  apply List.ext_getElem
  · rw [mix_len, List.length_set, mix_len]
  · intro j h1 h2
    have h3 : j < L.length := by rw [mix_len] at h1; exact h1
    rw [List.getElem_set, mix_get h1 h3, mix_get _ h3]
    by_cases e : k = j
    · subst e
      rw [if_pos rfl, if_pos (by omega)]
    · rw [if_neg e]
      by_cases hj : j < k
      · rw [if_pos hj, if_pos (by omega)]
      · rw [if_neg hj, if_neg (by omega)]

theorem setCell_here {w : World} {b i : Nat} {u v : Value} (h : w.cell? ⟨b, i, none⟩ = some u) : (w.setCell ⟨b, i, none⟩ v).cell? ⟨b, i, none⟩ = some v := World.cell?_setCell_same _ _ _ h
theorem setCell_there {w : World} {b b' i j : Nat} {u v : Value} (h : w.cell? ⟨b', j, none⟩ = some u) (hne : b' ≠ b) : (w.setCell ⟨b, i, none⟩ v).cell? ⟨b', j, none⟩ = some u := by
  rw [World.cell?_setCell_other _ _ _ _ (fun e => hne (by injection e with e1; exact e1.symm))]
  exact h
def CrashRel (L : List F) (K : List Int) (v1 : Value) (w : World) (i : Value) (wr : World) : Prop :=
  ∃ k : Nat, k ≤ L.length ∧ i = .int .i64 k ∧ FO wr (w.heap.size + 1 + 1) v1 (mix L K k) ∧ Gr w wr ∧ w.heap.size + 1 < wr.heap.size ∧ wr.cell? ⟨w.heap.size, 0, none⟩ = some v1 ∧ wr.cell? ⟨w.heap.size + 1, 0, none⟩ = some (.slice none 0 0) ∧ wr.frozen? ⟨w.heap.size + 1, 0, none⟩ = false

theorem append_ext0 (x y : ByteArray) : x ++ y.extract 0 0 = x := by
  apply ByteArray.ext
  rw [ByteArray.data_append]
  simp
theorem CrashRel.drew {L : List F} {K : List Int} {v1 : Value} {w wr : World} {i : Value} (h : CrashRel L K v1 w i wr) : CrashRel L K v1 w i wr.drew := by
  obtain ⟨k, h1, h2, h3, h4, h5, h6, h7, h8⟩ := h
  exact ⟨k, h1, h2, h3.gr (Gr.refl _).drew, h4.drew, h5, h6, h7, h8⟩
theorem crashRel_step {L : List F} {K : List Int} {g n c k a : Nat} {f : F} {w wr : World} (hkL : k < L.length) (hf : f = L[k]) (ha : a = amount f K k)
    (hown : FO wr (w.heap.size + 1 + 1) (.slice (some ⟨g, 0, none⟩) n c) (mix L K k)) (hgr : Gr w wr) (hB : w.heap.size + 1 < wr.heap.size)
    (hb0 : wr.cell? ⟨w.heap.size, 0, none⟩ = some (.slice (some ⟨g, 0, none⟩) n c)) (hb1 : wr.cell? ⟨w.heap.size + 1, 0, none⟩ = some (.slice none 0 0)) (hfb : wr.frozen? ⟨w.heap.size + 1, 0, none⟩ = false) :
    CrashRel L K (.slice (some ⟨g, 0, none⟩) n c) w (.int .i64 ((k : Int) + 1)) ((wr.setCell ⟨g, k * 3 + 1, none⟩ (.string (f.kept ++ f.loose.extract 0 a))).setCell ⟨g, k * 3 + 2, none⟩ (.string ⟨#[]⟩)) := by
  have hBg := hown.len.2.2.2.1
  have hm : k < (mix L K k).length := by rw [mix_len]; exact hkL
  have hp := hown.put2 hm (f.kept ++ f.loose.extract 0 a) ⟨#[]⟩
  rw [mix_at hkL] at hp
  have he : (⟨L[k].name, f.kept ++ f.loose.extract 0 a, ⟨#[]⟩⟩ : F) = crashAt L[k] K k := by
    unfold crashAt
    rw [ha, hf]
  rw [he, ← mix_succ hkL] at hp
  refine ⟨k + 1, by omega, by go_num, hp, Below.setCell (Below.setCell hgr (p := ⟨g, k * 3 + 1, none⟩) (by show w.heap.size ≤ g; omega) _) (p := ⟨g, k * 3 + 2, none⟩) (by show w.heap.size ≤ g; omega) _, by simpa [World.setCell] using hB,
    setCell_there (setCell_there hb0 (by omega)) (by omega), setCell_there (setCell_there hb1 (by omega)) (by omega), by rw [World.frozen?_setCell, World.frozen?_setCell]; exact hfb⟩

set_option maxRecDepth 100000 in
set_option maxHeartbeats 2000000 in
theorem crash_any (v vk : Value) (L : List F) (K : List Int) (w : World) (hv : FV w v L) (hk : IV w vk K) (hf : Fit L) (hlen : L.length * 48 ≤ 140737488355328) :
    Calls Try.prog 17 #[.agg #[v], vk] w fun e w' => RetDisk (crash L K) w e w' := by
  obtain ⟨A, c, hva, _⟩ := id hv
  obtain ⟨Ak, ck, hvk, kl, kc, k3⟩ := hk
  have HV := Lib.hid hv
  have HFit := Lib.hid hf
  have HKK := Lib.hid k3
  have hkc63 : ck ≤ 9223372036854775807 := kc
  subst hva hvk
  clear hv hf k3 kc
  have HC := Lib.hid (fun (w1 : World) (g : Gr w w1) => copy_any _ L w1 (HV.out.gr g) HFit.out hlen)
  obtain ⟨n, hn⟩ : ∃ n, n = L.length := ⟨_, rfl⟩
  obtain ⟨m, hm⟩ : ∃ n, n = K.length := ⟨_, rfl⟩
  have HN := Lib.hid hn
  have HM := Lib.hid hm
  rw [← hn] at HC HV
  rw [← hn, ← hm]
  rw [← hm] at kl
  clear hn hm
  go_enter Try.func17, Try.ntmps17
  go_wp2_with fail
  refine (HC.out _ ((gr_box w _).alloc _)).mono ?_
  rintro e w1 ⟨v1, rfl, hown, g1⟩
  have G1 : Gr w w1 := ((gr_box w _).alloc _).trans g1
  have c0 : w1.cell? ⟨w.heap.size, 0, none⟩ = some (.slice A n c) := g1.cell (by simp)
  have f0 : w1.frozen? ⟨w.heap.size, 0, none⟩ = false := g1.frozen (by simp; omega) (by simp)
  have c1 : w1.cell? ⟨w.heap.size + 1, 0, none⟩ = some (.slice none 0 0) := g1.cell (by simp)
  have f1 : w1.frozen? ⟨w.heap.size + 1, 0, none⟩ = false := g1.frozen (by simp) (by simp)
  have hB : w.heap.size + 1 < w1.heap.size := by have := g1.size; simp at this; omega
  obtain ⟨A1, k1, hv1, hk1, hk2⟩ := hown.form
  rw [← HN.out] at hv1 hk1
  subst hv1
  have HO : Hid (FO w1 (w.heap.size + 1 + 1) (.slice A1 n k1) L) := Lib.hid (hown.le (by simp))
  clear hown g1
  go_wp2_with fail
  go_loopw [13] (fun i wr => CrashRel L K (.slice A1 n k1) w i wr) (fun i _ => n - (intOf i).toNat)
  case atStart => exact ⟨0, Nat.zero_le _, rfl, by rw [mix_zero]; exact ownsRow_setCell_below HO.out (a := ⟨w.heap.size, 0, none⟩) (by show w.heap.size < _; omega) _, Below.setCell G1 (Nat.le_refl _) _, by simpa [World.setCell] using hB, setCell_here c0, setCell_there c1 (by omega), by rw [World.frozen?_setCell]; exact f1⟩
  case round =>
    obtain ⟨k, hk, rfl, hown, hgr, hBr, hb0, hb1, hfb⟩ := hrel
    rw [← HN.out] at hk
    have HOW := Lib.hid hown
    clear hown G1 c0 f0 c1 f1 HO hB
    by_cases hlt : k < n
    · have hkL : k < L.length := by rw [← HN.out]; exact hlt
      have hkM : k < (mix L K k).length := by rw [mix_len]; exact hkL
      obtain ⟨g, cc, hvv⟩ := HOW.out.addr hkM
      injection hvv with h1 h2 h3
      subst h1 h3
      clear h2
      obtain ⟨cc0, cc1, cc2⟩ := HOW.out.at_ hkM
      rw [mix_at hkL] at cc0 cc1 cc2
      have hfit := HFit.out _ (List.getElem_mem hkL)
      unfold FitF F.size at hfit
      have hs := hfit.2
      obtain ⟨f, hfe⟩ : ∃ f, f = L[k] := ⟨_, rfl⟩
      rw [← hfe] at cc0 cc1 cc2 hs
      have z1 := HOW.out.free (k * 3 + 1)
      have z2 := HOW.out.free (k * 3 + 2)
      clear hfit
      have HFE := Lib.hid hfe
      clear hfe
      obtain ⟨a, ha⟩ : ∃ a, a = amount f K k := ⟨_, rfl⟩
      have hal : a ≤ f.loose.size := by rw [ha]; exact Nat.min_le_right _ _
      have hez : (f.loose.extract 0 a).size = a := by rw [ByteArray.size_extract]; omega
      have HAM := Lib.hid ha
      clear ha
      by_cases hkm : k < m
      · obtain ⟨b, off, rfl, hkc0, hk1', hk2'⟩ := HKK.out k (by rw [← HM.out]; exact hkm)
        have hkc := hgr.cell hkc0
        obtain ⟨q, hq⟩ : ∃ q, q = K[k]'(by rw [← HM.out]; exact hkm) := ⟨_, rfl⟩
        have hmm : min (max q 0) (f.loose.size : Int) = (a : Int) := by
          have e : K.getD k 0 = q := by rw [hq, List.getD_eq_getElem?_getD, List.getElem?_eq_getElem]; rfl
          rw [HAM.out]
          unfold amount
          rw [e]
          omega
        rw [← hq] at hkc hk1' hk2'
        have HQ := Lib.hid hmm
        clear hkc0 hq hmm
        go_wp2_with fail
        go_region
        rw [HQ.out]
        go_wp2_with fail
        clear HQ hkc hk1' hk2'
        go_region
        have HS := Lib.hid (crashRel_step hkL HFE.out HAM.out HOW.out hgr hBr hb0 hb1 hfb)
        clear cc0 cc1 cc2 z1 z2 hb0 hb1 hfb
        go_wp2
        go_roundw
        case rel => exact HS.out.drew.drew
        case measure => simp [intOf]; omega
      · have ha0 : a = 0 := by
          have e : K.getD k 0 = 0 := by rw [List.getD_eq_getElem?_getD, List.getElem?_eq_none (by rw [← HM.out]; omega)]; rfl
          rw [HAM.out]
          unfold amount
          rw [e]
          exact Nat.zero_min _
        subst ha0
        have hst := crashRel_step hkL HFE.out HAM.out HOW.out hgr hBr hb0 hb1 hfb
        rw [append_ext0] at hst
        have HS := Lib.hid hst
        clear hst
        go_wp2_with fail
        go_region
        clear cc0 cc1 cc2 z1 z2 hb0 hb1 hfb
        go_wp2
        go_roundw
        case rel => exact HS.out.drew
        case measure => simp [intOf]; omega
    · have hall := mix_all L K (k := k) (by rw [← HN.out]; omega)
      rw [hall] at HOW
      clear hall
      go_wp2
      refine bodyPost_ret (v := .agg #[.slice A1 n k1]) (by simp [results, Try.results17, go_sem, hb1]) rfl ⟨_, rfl, ?_, ?_⟩
      · exact own_le (ownsRow_setCell_below HOW.out (a := ⟨w.heap.size + 1, 0, none⟩) (by show w.heap.size + 1 < _; omega) _) (by omega)
      · exact Below.setCell hgr (show w.heap.size ≤ w.heap.size + 1 by omega) _
end Go.Proofs.Ytonlplfjiaejhaa
