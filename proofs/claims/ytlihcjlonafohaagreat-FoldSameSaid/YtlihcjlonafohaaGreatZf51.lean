/- An argument that is a slice of bytes: what it reads as. -/
import Derived.Test.YtlihcjlonafohaaGreatZf50
import Derived.Test.YtlihcjlonafohaaGreatZf05
import Derived.Deep.Slices
import Derived.Deep.Fields
import Derived.ChangeSame
import Derived.SizedLaws
import Derived.OpenShut
namespace Go.Proofs.YtlihcjlonafohaaGreat
open Go.ChangeShapes Go.WideShapes Go.RowKit Go.Deep
set_option linter.unusedSimpArgs false
set_option linter.unusedVariables false

theorem cellsU8 : Tryz.prog.cellsOf 5 = 1 := by kernel_rfl
section
variable {H : Type} {enc : TypeId × Value → H} {W : World} {base : Nat} {v : Value} {d : DataW H} {p : List MemPlace}
set_option maxRecDepth 100000 in
theorem open_ys (hval : Value.okWide Tryz.prog W .any base 28 v) (h : DataW.Trod enc Tryz.prog W 0 (fun _ => true) true 28 v d p) : ∃ K, YV W v K := by
  obtain ⟨a0, len0, cap0, rfl⟩ := okWide_slice Tryz.underlying28 hval
  obtain ⟨fuel, hf⟩ := h
  rcases open_slice Tryz.underlying28 hf with ⟨hcs, _⟩ | ⟨a, len, m', m2, n, D, Pl, hcs, _, hl, hm, hmm, hx, hi⟩
  · rw [show (Value.slice a0 len0 cap0) = .slice none 0 0 by simpa [Value.cells] using hcs]
    exact ⟨[], none, 0, rfl, ⟨Nat.le_refl _, Nat.zero_le _⟩, fun j hj => absurd hj (by simp)⟩
  · rw [show (Value.slice a0 len0 cap0) = .slice (some a) len m' by simpa [Value.cells] using hcs]
    simp only [if_true] at hmm
    subst hmm
    rw [cellsU8] at hi
    have hsp : 0 < len → a.spot = none := fun h0 => spot_of (by decide) hi (show 0 < m2 by omega)
    have hex : ∀ i, i < len → ∃ z : Nat, ∃ b off, a = ⟨b, off, none⟩ ∧ W.cell? ⟨b, off + i, none⟩ = some (.int .u8 (z : Int)) ∧ z ≤ 255 := fun i hil => by
      obtain ⟨cs', hc, ht⟩ := hi i (by omega)
      obtain ⟨_, hcl, hat⟩ := World.cells?_some hc
      obtain ⟨z, hs, _, hwf⟩ := DataW.trod_int Tryz.underlying5 ht
      have b := bounds_u8 hwf
      have c0 := hat 0 (by decide)
      rw [hs] at c0
      obtain ⟨b', off, spot⟩ := a
      have hspot : spot = none := hsp (by omega)
      subst hspot
      rw [add_plain, add_plain, Nat.mul_one] at c0
      refine ⟨z.toNat, b', off, rfl, ?_, by omega⟩
      rw [show ((z.toNat : Nat) : Int) = z by omega]
      exact c0
    obtain ⟨L, hL, hall⟩ := list_of len hex
    refine ⟨L, some a, m2, by rw [hL], ⟨by omega, hm⟩, fun j hj => ?_⟩
    obtain ⟨b, off, ha, hc, hle⟩ := hall j hj
    exact ⟨b, off, by rw [ha], hc, hle⟩
end
end Go.Proofs.YtlihcjlonafohaaGreat
