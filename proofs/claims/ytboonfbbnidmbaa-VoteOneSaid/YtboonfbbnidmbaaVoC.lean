/- Slices of numbers; walk: the program's Majority. -/
import Derived.Test.YtboonfbbnidmbaaVoA
import Derived.Test.YtboonfbbnidmbaaRowsG
namespace Go.Proofs.Ytboonfbbnidmbaa
open Go.RowKit Vo
set_option linter.unusedSimpArgs false

def icell (z : Int) : Value := .int .i64 z
/-- The slice value v reads as these numbers. -/
def NV (w : World) (v : Value) (K : List Int) : Prop := SL w 1 v K.length (K.map icell)
theorem NV.gr {w w' : World} {v : Value} {K : List Int} (h : NV w v K) (g : Gr w w') : NV w' v K := SL.gr h g
theorem NV.form {w : World} {v : Value} {K : List Int} (h : NV w v K) : ∃ A c, v = .slice A K.length c ∧ K.length ≤ c ∧ c ≤ 9223372036854775807 ∧ ∀ j (hj : j < K.length), ∃ b off, A = some ⟨b, off, none⟩ ∧ w.cell? ⟨b, off + j, none⟩ = some (.int .i64 K[j]) := by
  obtain ⟨A, c, hv, h1, ⟨h2, _⟩, h3, h4⟩ := h
  refine ⟨A, c, hv, h1, h2, fun j hj => h4 j _ (by rw [List.getElem?_map, List.getElem?_eq_getElem hj]; rfl)⟩
/-- Is this number among those? -/
def among (K : List Int) (k : Nat) : Bool := K.any fun m => decide (m = (k : Int))
/-- The crowd of these numbers is what the bits c tell. -/
def CrowdL (S : Nat → Bool) (K : List Int) (c : Nat) : Prop := Crowd S (among K) c
theorem CrowdL.nil (S : Nat → Bool) : CrowdL S [] 0 := (Crowd.zero S).congr fun _ _ => rfl
theorem CrowdL.snoc {S : Nat → Bool} {K : List Int} {c : Nat} (h : CrowdL S K c) (m : Int) : CrowdL S (K ++ [m]) (c ||| bitN S m) :=
  (Crowd.or h m).congr fun k _ => by simp [among, List.any_append]
theorem CrowdL.lt {S : Nat → Bool} {K : List Int} {c : Nat} (h : CrowdL S K c) : c < 256 := Crowd.lt h
theorem CrowdL.most {S : Nat → Bool} {K : List Int} {c : Nat} (h : CrowdL S K c) : mostB S c = majB S (among K) := Crowd.most h
theorem take_next {α : Type} (L : List α) {k : Nat} (hk : k < L.length) : L.take (k + 1) = L.take k ++ [L[k]] := by
  rw [List.take_succ_eq_append_getElem hk]
def MajRel (S : Nat → Bool) (K : List Int) (W : World) (c i : Value) (wr : World) : Prop :=
  ∃ k x : Nat, k ≤ K.length ∧ i = .int .i64 (k : Int) ∧ CrowdL S (K.take k) x ∧ c = .int .u8 (x : Int) ∧ Gr W wr
theorem box_load {w W : World} (S : Nat → Bool) (hX : W.heap[w.heap.size]? = some (.cells (setc S) 35 (0, 0))) {w' : World} (g : Gr W w') : w'.heap[w.heap.size]? = some (.cells (setc S) 35 (0, 0)) := by
  rw [g.block _ (Array.getElem?_eq_some_iff.1 hX).1]
  exact hX
set_option maxRecDepth 100000 in
theorem majority_any (S : Nat → Bool) (v : Value) (K : List Int) (w : World) (hv : NV w v K) :
    Calls Try.prog 17 #[.agg (setc S), v] w fun e w' => e = .returned (.bool (majB S (among K))) ∧ Gr w w' := by
  obtain ⟨W, hW, hg, hX, hA⟩ := box_set S w
  obtain ⟨A, c, rfl, h1, h2, h3⟩ := hv.form
  obtain ⟨n, hn⟩ : ∃ n, n = K.length := ⟨_, rfl⟩
  rw [← hn] at h1 ⊢
  have HN := Lib.hid hn
  have HV := Lib.hid h3
  have HG := Lib.hid hg
  have HA := Lib.hid hA
  clear hX hg hA hv h3 hn
  go_enter Try.func17, Try.ntmps17
  go_upto_region 1 with (fail)
  rw [← hW]
  clear hW
  go_wp2_with fail
  go_loopw [5, 7, 10] (fun x _ i wr => MajRel S K W x i wr) (fun _ _ i _ => n - (intOf i).toNat)
  case atStart => exact ⟨0, 0, Nat.zero_le _, rfl, CrowdL.nil S, rfl, Gr.refl _⟩
  case round =>
    obtain ⟨k, x, hk, rfl, hc, rfl, hgr⟩ := hrel
    rw [← HN.out] at hk
    have c0 := hgr.cell (HA.out 0 (by decide))
    have c1 := hgr.cell (HA.out 1 (by decide))
    have c2 := hgr.cell (HA.out 2 (by decide))
    have c3 := hgr.cell (HA.out 3 (by decide))
    have c4 := hgr.cell (HA.out 4 (by decide))
    have c5 := hgr.cell (HA.out 5 (by decide))
    have c6 := hgr.cell (HA.out 6 (by decide))
    have c7 := hgr.cell (HA.out 7 (by decide))
    have HGR := Lib.hid hgr
    clear hgr
    by_cases hlt : k < n
    · have hkK : k < K.length := by rw [← HN.out]; exact hlt
      obtain ⟨b, off, rfl, hm⟩ := HV.out k hkK
      obtain ⟨m, hmm⟩ : ∃ m, m = K[k] := ⟨_, rfl⟩
      rw [← hmm] at hm
      have hm2 := HGR.out.cell (HG.out.cell hm)
      have HC := Lib.hid (show CrowdL S (K.take (k + 1)) (x ||| bitN S m) by rw [take_next K hkK, ← hmm]; exact hc.snoc m)
      have hk0 : (0 : Int) ≤ (k : Int) := Int.natCast_nonneg _
      have hx := hc.lt
      clear hm hmm hkK hc
      go_wp2_with fail
      refine (bit_any S m _).mono ?_
      rintro e w1 ⟨rfl, g1⟩
      have HG1 := Lib.hid (HGR.out.trans g1)
      clear g1 c0 c1 c2 c3 c4 c5 c6 c7
      go_wp2_with fail

      go_roundw
      case rel => exact ⟨k + 1, x ||| bitN S m, by rw [← HN.out]; exact hlt, by go_num, HC.out, by rw [bits_or8 hx (bitN_lt S m)], HG1.out⟩
      case measure => simp [intOf]; omega
    · obtain rfl : k = n := by omega
      have HC := Lib.hid (show mostB S x = majB S (among K) by rw [List.take_of_length_le (by rw [← HN.out]; exact Nat.le_refl _)] at hc; exact hc.most)
      have hx := hc.lt
      clear hc
      go_wp2_with fail
      refine (most_any S x hx _).mono ?_
      rintro e w1 ⟨rfl, g1⟩
      rw [HC.out]
      go_wp2_with fail
      go_ret
      exact ⟨rfl, HG.out.trans (HGR.out.trans g1)⟩
end Go.Proofs.Ytboonfbbnidmbaa
