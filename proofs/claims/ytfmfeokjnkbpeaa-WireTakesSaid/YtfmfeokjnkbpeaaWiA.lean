/- Walks: packets, nets; members, places, what may come through. -/
import Derived.Test.YtfmfeokjnkbpeaaRowsG
import Derived.Test.YtfmfeokjnkbpeaaStr
import Derived.BigQuiet
import Derived.Deep.QuietTactic
import Derived.WalkSpells
import Derived.WalkLawsBesides
import Derived.Outline
import Derived.StillTailTactics
import Derived.IntWalk
import Derived.Deep.Cut
import Derived.Deep.RegionHeld3
import Derived.Deep.RegionLaw
import Derived.Lib.SliceRun
namespace Go.Proofs.Ytfmfeokjnkbpeaa.Wi
open Go.RowKit

structure P where
  id : Int
  src : Int
  dst : Int
  body : ByteArray
/-- The packet p lies at this place. -/
def PCell (w : World) (b off : Nat) (p : P) : Prop :=
  w.cell? ⟨b, off, none⟩ = some (.int .i64 p.id) ∧ w.cell? ⟨b, off + 1, none⟩ = some (.int .i64 p.src) ∧ w.cell? ⟨b, off + 2, none⟩ = some (.int .i64 p.dst) ∧ w.cell? ⟨b, off + 3, none⟩ = some (.string p.body)
theorem PCell.gr {w w' : World} {b off : Nat} {p : P} (h : PCell w b off p) (g : Gr w w') : PCell w' b off p := ⟨g.cell h.1, g.cell h.2.1, g.cell h.2.2.1, g.cell h.2.2.2⟩
/-- The slice value v reads as the packets L. -/
def PV (w : World) (v : Value) (L : List P) : Prop :=
  ∃ A c, v = .slice A L.length c ∧ L.length ≤ c ∧ (c ≤ maxLen ∧ (A = Option.none → c = 0)) ∧ ∀ j (hj : j < L.length), ∃ b off, A = some ⟨b, off, none⟩ ∧ PCell w b (off + j * 4) L[j]
theorem PV.gr {w w' : World} {v : Value} {L : List P} (h : PV w v L) (g : Gr w w') : PV w' v L := by
  obtain ⟨A, c, hv, h1, h2, h3⟩ := h
  refine ⟨A, c, hv, h1, h2, fun j hj => ?_⟩
  obtain ⟨b, off, ha, hc⟩ := h3 j hj
  exact ⟨b, off, ha, hc.gr g⟩
theorem PV.nil (w : World) : PV w (.slice none 0 0) [] := ⟨none, 0, rfl, Nat.le_refl _, ⟨Nat.zero_le _, fun _ => rfl⟩, fun j hj => absurd hj (by simp)⟩
/-- A net's cells. -/
abbrev ncells (v : Value) (nx : Int) (s : Nat → Int) : Array Value := #[v, .int .i64 nx, .int .i64 (s 0), .int .i64 (s 1), .int .i64 (s 2), .int .i64 (s 3), .int .i64 (s 4), .int .i64 (s 5), .int .i64 (s 6), .int .i64 (s 7)]
theorem ncells_side (v : Value) (nx : Int) (s : Nat → Int) {k : Nat} (hk : k < 8) : (ncells v nx s)[2 + k]? = some (.int .i64 (s k)) := by
  match k, hk with
  | 0, _ => rfl
  | 1, _ => rfl
  | 2, _ => rfl
  | 3, _ => rfl
  | 4, _ => rfl
  | 5, _ => rfl
  | 6, _ => rfl
  | 7, _ => rfl
abbrev pcells (p : P) : Array Value := #[.int .i64 p.id, .int .i64 p.src, .int .i64 p.dst, .string p.body]
def mem (i : Int) : Bool := decide (0 ≤ i) && decide (i < 8)
theorem mem_yes {i : Int} (h : 0 ≤ i ∧ i < 8) : mem i = true := by simp [mem, h]
theorem mem_no {i : Int} (h : ¬ (0 ≤ i ∧ i < 8)) : mem i = false := by
  rw [Bool.eq_false_iff]; intro e; simp [mem] at e; exact h e
theorem mem_iff {i : Int} : mem i = true ↔ ∃ n : Nat, i = n ∧ n < 8 := by
  constructor
  · intro h
    simp [mem] at h
    exact ⟨i.toNat, by omega, by omega⟩
  · rintro ⟨n, rfl, h⟩
    exact mem_yes (by omega)
/-- May it come through? -/
def thr (s : Nat → Int) (p : P) : Bool := mem p.src && (mem p.dst && (s p.src.toNat == s p.dst.toNat))

theorem member_any (i : Int) (w : World) : Calls Try.prog 25 #[.int .i64 i] w fun e w' => e = .returned (.bool (mem i)) ∧ w' = w := by
  by_cases h0 : 0 ≤ i
  · have hd : decide ((0 : Int) ≤ i) = true := decide_eq_true h0
    go_enter Try.func25, Try.ntmps25
    go_wp2
    all_goals go_ret
    all_goals exact ⟨by simp [mem, *], rfl⟩
  · have hd : decide ((0 : Int) ≤ i) = false := decide_eq_false h0
    go_enter Try.func25, Try.ntmps25
    go_wp2
    all_goals go_ret
    all_goals exact ⟨by simp [mem, *], rfl⟩

def thereB (k : Int) (n : Nat) : Bool := decide (0 ≤ k) && decide (k < (n : Int))
theorem there_iff {k : Int} {n : Nat} : thereB k n = true ↔ ∃ j : Nat, k = j ∧ j < n := by
  constructor
  · intro h
    simp [thereB] at h
    exact ⟨k.toNat, by omega, by omega⟩
  · rintro ⟨j, rfl, h⟩
    simp [thereB]
    omega
theorem there_no {k : Int} {n : Nat} (h : thereB k n = false) : ¬ (0 ≤ k ∧ k < (n : Int)) := by
  rintro ⟨h1, h2⟩
  simp [thereB] at h
  omega
theorem there_any (A : Option Addr) (n c : Nat) (hc : n ≤ c ∧ c ≤ 9223372036854775807) (nx : Int) (s : Nat → Int) (k : Int) (w : World) :
    Calls Try.prog 20 #[.agg (ncells (.slice A n c) nx s), .int .i64 k] w fun e w' => e = .returned (.bool (thereB k n)) ∧ Gr w w' := by
  obtain ⟨hc1, hc2⟩ := hc
  have HG := Lib.hid (gr_box w (.cells (ncells (.slice A n c) nx s) 25))
  by_cases h0 : 0 ≤ k
  · have hd : decide ((0 : Int) ≤ k) = true := decide_eq_true h0
    go_enter Try.func20, Try.ntmps20
    go_wp2
    all_goals go_ret
    all_goals exact ⟨by simp [thereB, *], HG.out⟩
  · have hd : decide ((0 : Int) ≤ k) = false := decide_eq_false h0
    go_enter Try.func20, Try.ntmps20
    go_wp2
    all_goals go_ret
    all_goals exact ⟨by simp [thereB, *], HG.out⟩
end Go.Proofs.Ytfmfeokjnkbpeaa.Wi
