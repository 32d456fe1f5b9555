/- Walks: a packet lost; a packet twice. -/
import Derived.Test.YtfmfeokjnkbpeaaWiH
namespace Go.Proofs.Ytfmfeokjnkbpeaa.Wi
open Go.RowKit

/-- A call's answer: a net whose bag is new memory, and an error's number. -/
def RetNetE (L : List P) (nx : Int) (s : Nat → Int) (er : Int) (w : World) (e : Ending) (w' : World) : Prop := ∃ v, e = .returned (.tuple #[.agg (ncells v nx s), .int .i64 er]) ∧ PO w' w.heap.size v L ∧ Gr w w'
def zs : Nat → Int := fun _ => 0

set_option maxRecDepth 100000 in
set_option maxHeartbeats 4000000 in
theorem lose_no (v : Value) (L : List P) (nx : Int) (s : Nat → Int) (k : Int) (hk : thereB k L.length = false) (w : World) (hv : PV w v L) :
    Calls Try.prog 15 #[.agg (ncells v nx s), .int .i64 k] w fun e w' => RetNetE [] 0 zs 40 w e w' := by
  obtain ⟨A, c, hva, hc1, ⟨hc2, -⟩, -⟩ := id hv
  unfold maxLen at hc2
  obtain ⟨n, hn⟩ : ∃ n, n = L.length := ⟨_, rfl⟩
  rw [← hn] at hva hk hc1
  subst hva
  obtain ⟨W, hW, hG, hB0, hF0, hB1, hF1, hz⟩ := boxesNN (.slice A n c) nx s w
  have HT := Lib.hid (there_any A n c ⟨hc1, hc2⟩ nx s k W)
  rw [hk] at HT
  have HB1 := Lib.hid hB1
  have HF1 := Lib.hid hF1
  have HG := Lib.hid hG
  clear hF0 hB1 hF1 hG hv hz hn hk
  obtain ⟨a0, a1, a2, a3, a4, a5, a6, a7, a8, a9⟩ := hB0
  go_enter Try.func15, Try.ntmps15
  go_upto_region 1 with (fail)
  rw [← hW]
  clear hW
  go_wp2_with fail
  clear a0 a1 a2 a3 a4 a5 a6 a7 a8 a9
  refine HT.out.mono ?_
  rintro e w2 ⟨rfl, g2⟩
  obtain ⟨b0, b1, b2, b3, b4, b5, b6, b7, b8, b9⟩ := HB1.out.gr g2
  obtain ⟨-, y0, y1, y2, y3, y4, y5, y6, y7, y8, y9⟩ := HF1.out.gr g2
  have HG2 := Lib.hid (HG.out.trans g2)
  clear g2
  go_wp2
  refine bodyPost_ret (v := .tuple #[.agg (ncells (.slice none 0 0) 0 zs), .int .i64 40]) (by simp [results, Try.results15, go_sem, zs, b0, b1, b2, b3, b4, b5, b6, b7, b8, b9]) rfl ⟨_, rfl, PO.nil _ _, ?_⟩
  exact below_put10 HG2.out (Nat.le_succ _) _ _ _ _ _ _ _ _ _ _

set_option maxRecDepth 100000 in
set_option maxHeartbeats 4000000 in
theorem lose_yes (v : Value) (L : List P) (nx : Int) (s : Nat → Int) (k : Nat) (hk : k < L.length) (w : World) (hv : PV w v L) (hf : Fit L) (hlen : L.length * 40 ≤ 140737488355328) :
    Calls Try.prog 15 #[.agg (ncells v nx s), .int .i64 k] w fun e w' => RetNetE (less L k) nx s 0 w e w' := by
  obtain ⟨A, c, hva, hc1, ⟨hc2, -⟩, -⟩ := id hv
  unfold maxLen at hc2
  obtain ⟨n, hn⟩ : ∃ n, n = L.length := ⟨_, rfl⟩
  have HN := Lib.hid hn
  rw [← hn] at hva hk hc1
  subst hva
  obtain ⟨W, hW, hG, hB0, hF0, hB1, hF1, hz⟩ := boxesNN (.slice A n c) nx s w
  have HT := Lib.hid (there_any A n c ⟨hc1, hc2⟩ nx s k W)
  rw [there_iff.2 ⟨k, rfl, hk⟩] at HT
  have HW := Lib.hid (fun W2 (q : Gr W W2) => without_any (.slice A n c) L nx s k (by rw [← hn]; exact hk) W2 ((hv.gr hG).gr q) hf hlen)
  have HB0 := Lib.hid hB0
  have HB1 := Lib.hid hB1
  have HF1 := Lib.hid hF1
  have HG := Lib.hid hG
  have HZ := Lib.hid hz
  clear hF0 hB1 hF1 hG hv hz hn hk
  obtain ⟨a0, a1, a2, a3, a4, a5, a6, a7, a8, a9⟩ := hB0
  go_enter Try.func15, Try.ntmps15
  go_upto_region 1 with (fail)
  rw [← hW]
  clear hW
  go_wp2_with fail
  clear a0 a1 a2 a3 a4 a5 a6 a7 a8 a9
  refine HT.out.mono ?_
  rintro e w2 ⟨rfl, g2⟩
  obtain ⟨a0, a1, a2, a3, a4, a5, a6, a7, a8, a9⟩ := HB0.out.gr g2
  have HG2 := Lib.hid g2
  clear g2
  go_wp2_with fail
  clear a0 a1 a2 a3 a4 a5 a6 a7 a8 a9
  refine (HW.out _ HG2.out).mono ?_
  rintro e w3 ⟨v3, rfl, hown, g3⟩
  obtain ⟨A3, c3, hv3, -, -⟩ := hown.form
  obtain ⟨n3, hn3⟩ : ∃ m, m = (less L k).length := ⟨_, rfl⟩
  rw [← hn3] at hv3
  subst hv3
  have g4 := HG2.out.trans g3
  obtain ⟨b0, b1, b2, b3, b4, b5, b6, b7, b8, b9⟩ := HB1.out.gr g4
  obtain ⟨-, y0, y1, y2, y3, y4, y5, y6, y7, y8, y9⟩ := HF1.out.gr g4
  have HG4 := Lib.hid (HG.out.trans g4)
  have HO : Hid (PO w3 (w.heap.size + 1 + 1) (.slice A3 n3 c3) (less L k)) := Lib.hid (hown.le (by have := HZ.out; have := HG2.out.size; omega))
  clear g3 g4 hown hn3
  go_wp2
  refine bodyPost_ret (v := .tuple #[.agg (ncells (.slice A3 n3 c3) nx s), .int .i64 0]) (by simp [results, Try.results15, go_sem, b0, b1, b2, b3, b4, b5, b6, b7, b8, b9]) rfl ⟨_, rfl, ?_, ?_⟩
  · exact own_le (own_put10 HO.out (Nat.lt_succ_self _) _ _ _ _ _ _ _ _ _ _) (by omega)
  · exact below_put10 HG4.out (Nat.le_succ _) _ _ _ _ _ _ _ _ _ _
end Go.Proofs.Ytfmfeokjnkbpeaa.Wi
