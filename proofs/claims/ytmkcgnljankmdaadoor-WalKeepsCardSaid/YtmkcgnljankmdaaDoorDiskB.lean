/- Disks as they are read: a slice of files; the document's find and Bytes. -/
import Derived.Test.YtmkcgnljankmdaaDoorDiskA
import Derived.Test.YtmkcgnljankmdaaDoorSlc
import Derived.BigQuiet
import Derived.Deep.QuietTactic
import Derived.WalkSpells
import Derived.WalkLawsBesides
import Derived.Outline
namespace Go.Proofs.YtmkcgnljankmdaaDoor
open Go.RowKit

/-- The file f lies at this place. -/
def FCell (w : World) (b off : Nat) (f : F) : Prop :=
  w.cell? ⟨b, off, none⟩ = some (.string f.name) ∧ w.cell? ⟨b, off + 1, none⟩ = some (.string f.kept) ∧ w.cell? ⟨b, off + 2, none⟩ = some (.string f.loose)
/-- The slice value v reads as the files L. -/
def FV (w : World) (v : Value) (L : List F) : Prop :=
  ∃ A c, v = .slice A L.length c ∧ L.length ≤ c ∧ (c ≤ maxLen ∧ (A = Option.none → c = 0)) ∧ ∀ j (hj : j < L.length), ∃ b off, A = some ⟨b, off, none⟩ ∧ FCell w b (off + j * 3) L[j]
theorem FCell.gr {w w' : World} {b off : Nat} {f : F} (h : FCell w b off f) (g : Gr w w') : FCell w' b off f := ⟨g.cell h.1, g.cell h.2.1, g.cell h.2.2⟩
theorem FV.gr {w w' : World} {v : Value} {L : List F} (h : FV w v L) (g : Gr w w') : FV w' v L := by
  obtain ⟨A, c, hv, h1, h2, h3⟩ := h
  refine ⟨A, c, hv, h1, h2, fun j hj => ?_⟩
  obtain ⟨b, off, ha, hc⟩ := h3 j hj
  exact ⟨b, off, ha, hc.gr g⟩
theorem FV.nil (w : World) : FV w (.slice none 0 0) [] := ⟨none, 0, rfl, Nat.le_refl _, ⟨Nat.zero_le _, fun _ => rfl⟩, fun j hj => absurd hj (by simp)⟩

def findI (L : List F) (nm : ByteArray) : Int := if findF L nm < L.length then (findF L nm : Int) else -1
theorem findI_yes {L : List F} {nm : ByteArray} (h : findF L nm < L.length) : findI L nm = (findF L nm : Int) := if_pos h
theorem findI_no {L : List F} {nm : ByteArray} (h : ¬ findF L nm < L.length) : findI L nm = -1 := if_neg h
theorem findI_at {L : List F} {nm : ByteArray} {k : Nat} (hk : k < L.length) (h1 : L[k].name = nm) (h2 : ∀ j (_ : j < k), L[j].name ≠ nm) : findI L nm = (k : Int) := by
  have := findF_eq hk h1 h2
  rw [findI_yes (by rw [this]; exact hk), this]
theorem findI_none {L : List F} {nm : ByteArray} (h : ∀ j (_ : j < L.length), L[j].name ≠ nm) : findI L nm = -1 := by
  have := findF_none h
  rw [findI_no (by rw [this]; omega)]

set_option maxRecDepth 100000 in
theorem rfind_any (v : Value) (L : List F) (nm : ByteArray) (w : World) (hv : FV w v L) :
    Calls Tryd.prog 38 #[.agg #[v], .string nm] w fun e w' => e = .returned (.int .i64 (findI L nm)) ∧ Gr w w' := by
  obtain ⟨A, c, rfl, l1, ⟨l2, _⟩, l3⟩ := hv
  have hc63 : c ≤ 9223372036854775807 := l2
  have HA := Lib.hid l3
  obtain ⟨n, hn⟩ : ∃ n, n = L.length := ⟨_, rfl⟩
  rw [← hn] at l1 ⊢
  have HN := Lib.hid hn
  clear l3 l2 hn
  have HG := fun A => Lib.hid (gr_box w (.cells #[.slice A n c] 24))
  go_enter Tryd.func38, Tryd.ntmps38
  go_wp2
  go_loop [5] (fun i => ∃ k : Nat, k ≤ n ∧ i = .int .i64 k ∧ Hid (∀ j (hj : j < L.length), j < k → L[j].name ≠ nm)) (fun i => n - (intOf i).toNat)
  case atStart => exact ⟨0, Nat.zero_le _, rfl, fun j _ h => absurd h (Nat.not_lt_zero _)⟩
  case round =>
    obtain ⟨k, hk, rfl, hall⟩ := hrel
    by_cases hlt : k < n
    · have hkL : k < L.length := by rw [← HN.out]; exact hlt
      obtain ⟨b, off, rfl, hc0, -, -⟩ := HA.out k hkL
      have hc1 := (HG (some ⟨b, off, none⟩)).out.cell hc0
      clear hc0
      obtain ⟨x, hx⟩ : ∃ x, x = L[k].name := ⟨_, rfl⟩
      rw [← hx] at hc1
      rcases hq : eqS x nm with _ | _
      · have ht : (x.toList == nm.toList) = false := hq
        have HA2 : Hid (∀ j (hj : j < L.length), j < k + 1 → L[j].name ≠ nm) := by
          intro j hj hjk
          by_cases e : j = k
          · subst e; rw [← hx]; intro e2; rw [e2, eqS_self] at hq; cases hq
          · exact hall j hj (by omega)
        clear hq hx hkL
        go_wp2_with fail
        go_round
        case rel => exact ⟨k + 1, by omega, by go_num, HA2⟩
        case measure => simp [intOf]; omega
      · have ht : (x.toList == nm.toList) = true := hq
        have HF := Lib.hid (findI_at hkL (by rw [← hx]; exact eqS_iff.1 hq) (fun j hj => hall j (by omega) hj))
        clear hq hx hkL
        go_wp2_with fail
        go_ret
        exact ⟨by rw [HF.out]; rfl, (HG _).out⟩
    · have HF := Lib.hid (findI_none (L := L) (nm := nm) (fun j hj => hall j hj (by rw [← HN.out] at hj; omega)))
      go_wp2_with fail
      go_ret
      exact ⟨by rw [HF.out]; rfl, (HG _).out⟩
end Go.Proofs.YtmkcgnljankmdaaDoor
