/- Stands sorted: the order is strict and weak; walks: slices.SortFunc over them, of no length and of any. -/
import Derived.Test.YtlgljanofppleaaSdC
namespace Go.Proofs.Ytlgljanofppleaa
open Go.RowKit Go.Joins Go.Sort Go.Lib Go.Shelf
set_option linter.unusedSimpArgs false
set_option linter.unusedVariables false

/-- Two lists of numbers, held against each other from the left. -/
def lexZ : List Int → List Int → Int
  | a :: r, b :: s => if cmpZ a b = 0 then lexZ r s else cmpZ a b
  | _, _ => 0
theorem cmpZ_neg {a b : Int} : cmpZ a b < 0 ↔ a < b := by unfold cmpZ; split <;> (try split) <;> omega
theorem cmpZ_zero {a b : Int} : cmpZ a b = 0 ↔ a = b := by unfold cmpZ; split <;> (try split) <;> omega
theorem lexZ_cons {a b : Int} {r s : List Int} : lexZ (a :: r) (b :: s) < 0 ↔ a < b ∨ (a = b ∧ lexZ r s < 0) := by
  show (if cmpZ a b = 0 then lexZ r s else cmpZ a b) < 0 ↔ _
  by_cases h : cmpZ a b = 0
  · rw [if_pos h]
    have e := cmpZ_zero.1 h
    exact ⟨fun q => .inr ⟨e, q⟩, fun q => by rcases q with q | q; (· omega); (· exact q.2)⟩
  · rw [if_neg h, cmpZ_neg]
    have e : ¬ a = b := fun q => h (cmpZ_zero.2 q)
    exact ⟨fun q => .inl q, fun q => by rcases q with q | q; (· exact q); (· exact absurd q.1 e)⟩
theorem lexZ_irrefl : ∀ a : List Int, ¬ lexZ a a < 0
  | [] => by unfold lexZ; omega
  | a :: r => by
    rw [lexZ_cons]
    rintro (h | ⟨_, h⟩)
    · omega
    · exact lexZ_irrefl r h
theorem lexZ_trans : ∀ (n : Nat) (a b c : List Int), a.length = n → b.length = n → c.length = n → lexZ a b < 0 → lexZ b c < 0 → lexZ a c < 0
  | 0, a, b, c, ha, hb, hc, h, _ => by
    have e1 := List.length_eq_zero_iff.1 ha
    subst e1
    unfold lexZ at h
    omega
  | n + 1, a :: r, b :: s, c :: t, ha, hb, hc, h, k => by
    rw [lexZ_cons] at h k ⊢
    have ih := lexZ_trans n r s t (by simpa using ha) (by simpa using hb) (by simpa using hc)
    rcases h with h | ⟨h1, h2⟩ <;> rcases k with k | ⟨k1, k2⟩
    · exact .inl (by omega)
    · exact .inl (by omega)
    · exact .inl (by omega)
    · exact .inr ⟨by omega, ih h2 k2⟩
theorem lexZ_ntrans : ∀ (n : Nat) (a b c : List Int), a.length = n → b.length = n → c.length = n → ¬ lexZ a b < 0 → ¬ lexZ b c < 0 → ¬ lexZ a c < 0
  | 0, a, b, c, ha, hb, hc, h, _ => by
    have e1 := List.length_eq_zero_iff.1 ha
    subst e1
    unfold lexZ
    omega
  | n + 1, a :: r, b :: s, c :: t, ha, hb, hc, h, k => by
    rw [lexZ_cons] at h k ⊢
    have ih := lexZ_ntrans n r s t (by simpa using ha) (by simpa using hb) (by simpa using hc)
    rintro (q | ⟨q1, q2⟩)
    · have h1 : ¬ a < b := fun x => h (.inl x)
      have k1 : ¬ b < c := fun x => k (.inl x)
      omega
    · have h1 : ¬ a < b := fun x => h (.inl x)
      have k1 : ¬ b < c := fun x => k (.inl x)
      exact ih (fun x => h (.inr ⟨by omega, x⟩)) (fun x => k (.inr ⟨by omega, x⟩)) q2
theorem lexZ_zero : ∀ (n : Nat) (a b : List Int), a.length = n → b.length = n → ¬ lexZ a b < 0 → ¬ lexZ b a < 0 → a = b
  | 0, a, b, ha, hb, _, _ => by rw [List.length_eq_zero_iff.1 ha, List.length_eq_zero_iff.1 hb]
  | n + 1, a :: r, b :: s, ha, hb, h, k => by
    rw [lexZ_cons] at h k
    have e : a = b := by
      have h1 : ¬ a < b := fun x => h (.inl x)
      have k1 : ¬ b < a := fun x => k (.inl x)
      omega
    subst e
    rw [lexZ_zero n r s (by simpa using ha) (by simpa using hb) (fun x => h (.inr ⟨rfl, x⟩)) (fun x => k (.inr ⟨rfl, x⟩))]
/-- What a stand is held by. -/
def keyP (p : TX × Nat × Nat) : List Int := [p.1.stamp, p.1.origin, p.1.seq, p.2.1, p.2.2]
def shp (d : ST) : TX × Nat × Nat := (d.t, d.m, d.k)
theorem ordC_key (x y : ST) : ordC x y = lexZ (keyP (shp x)) (keyP (shp y)) := rfl
def ltP (p q : TX × Nat × Nat) : Prop := lexZ (keyP p) (keyP q) < 0
/-- No later one stands ahead of an earlier one. -/
def SortedP (L : List (TX × Nat × Nat)) : Prop := L.Pairwise fun p q => ¬ ltP q p

set_option maxRecDepth 100000 in
set_option maxHeartbeats 2000000 in
theorem ins0 (v f : Value) (w : World) : Calls Try.prog 72 #[v, .int .i64 0, .int .i64 0, f] w fun e w' => e = .returned (.tuple #[]) ∧ w' = w := by
  go_enter Try.func72, Try.ntmps72
  go_wp2_with fail
  go_loopw [8] (fun i wr => i = .int .i64 1 ∧ wr = w) (fun _ _ => 0)
  case atStart => exact ⟨rfl, rfl⟩
  case round =>
    obtain ⟨rfl, rfl⟩ := hrel
    go_wp2_with fail
    go_end0
    exact ⟨rfl, rfl⟩
set_option maxRecDepth 100000 in
set_option maxHeartbeats 4000000 in
theorem pdq0 (v f : Value) (k : Int) (w : World) : Calls Try.prog 57 #[v, .int .i64 0, .int .i64 0, .int .i64 k, f] w fun e w' => e = .returned (.tuple #[]) ∧ w' = w := by
  have HI := Lib.hid (fun w1 => ins0 v f w1)
  go_enter Try.func57, Try.ntmps57
  go_wp2_with fail
  go_loopw [1, 2] (fun i j wr => i = .int .i64 0 ∧ j = .int .i64 0 ∧ wr = w) (fun _ _ _ => 0)
  case atStart => exact ⟨rfl, rfl, rfl⟩
  case round =>
    obtain ⟨rfl, rfl, rfl⟩ := hrel
    go_wp2_with fail
    refine (HI.out _).mono ?_
    rintro e w1 ⟨rfl, hw⟩
    subst hw
    go_wp2_with fail
    exact bodyPost_ret (v := .tuple #[]) (results_none (by kernel_rfl) _ _ _) rfl ⟨rfl, rfl⟩
set_option maxRecDepth 100000 in
set_option maxHeartbeats 4000000 in
theorem sort0 (A : Option Addr) (c : Nat) (w : World) : Calls Try.prog 40 #[.slice A 0 c, .func (.func 41) #[] #[]] w fun e w' => e = .returned (.tuple #[]) ∧ w' = w := by
  have HL := Lib.hid (fun w1 => Any.bits_Len (SlLaysF0.n15.bits (P := Try.prog) (ρ := laysSf_ren) { laysSf with }) 0 w1 (by omega) (by omega))
  have HP := Lib.hid (fun k w1 => pdq0 (.slice A 0 c) (.func (.func 41) #[] #[]) k w1)
  go_enter Try.func40, Try.ntmps40
  go_wp2_with fail
  refine (HL.out _).mono ?_
  rintro e w1 ⟨rfl, hw⟩
  subst hw
  go_wp2_with fail
  refine (HP.out _ _).mono ?_
  rintro e w2 ⟨rfl, hw⟩
  subst hw
  go_wp2_with fail
  go_end0
  exact ⟨rfl, rfl⟩
end Go.Proofs.Ytlgljanofppleaa
