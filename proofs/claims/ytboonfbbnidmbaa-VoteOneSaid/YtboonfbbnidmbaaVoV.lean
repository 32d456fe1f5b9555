/- Votes as they are read: slices of them, rows that a call owns; slices of numbers and of bytes. -/
import Derived.Test.YtboonfbbnidmbaaVoC
namespace Go.Proofs.Ytboonfbbnidmbaa
open Go.RowKit Vo
set_option linter.unusedSimpArgs false

/-- The cells of a vote. -/
def vtc (v : Vt) : List Value := [.int .i64 v.who, .int .u64 (v.bal : Int), .int .u64 (v.at' : Int), .string v.val]
theorem vtc_len (v : Vt) : (vtc v).length = 4 := rfl
def vtcs (L : List Vt) : List Value := L.flatMap vtc
theorem vtcs_len (L : List Vt) : (vtcs L).length = L.length * 4 := rows_len vtc 4 vtc_len L
theorem vtcs_one (L : List Vt) : ∀ u ∈ vtcs L, u.oneCell' = true := by
  intro u hu
  obtain ⟨v, _, hu⟩ := List.mem_flatMap.1 hu
  unfold vtc at hu
  simp only [List.mem_cons, List.not_mem_nil, or_false] at hu
  rcases hu with rfl | rfl | rfl | rfl <;> rfl
/-- The vote v lies at this place. -/
def VCell (w : World) (b off : Nat) (v : Vt) : Prop :=
  w.cell? ⟨b, off, none⟩ = some (.int .i64 v.who) ∧ w.cell? ⟨b, off + 1, none⟩ = some (.int .u64 (v.bal : Int)) ∧ w.cell? ⟨b, off + 2, none⟩ = some (.int .u64 (v.at' : Int)) ∧ w.cell? ⟨b, off + 3, none⟩ = some (.string v.val)
theorem VCell.gr {w w' : World} {b off : Nat} {v : Vt} (h : VCell w b off v) (g : Gr w w') : VCell w' b off v := ⟨g.cell h.1, g.cell h.2.1, g.cell h.2.2.1, g.cell h.2.2.2⟩
/-- The slice value v reads as these votes. -/
def VV (w : World) (v : Value) (L : List Vt) : Prop := SL w 4 v L.length (vtcs L)
theorem VV.gr {w w' : World} {v : Value} {L : List Vt} (h : VV w v L) (g : Gr w w') : VV w' v L := SL.gr h g
theorem VV.form {w : World} {v : Value} {L : List Vt} (h : VV w v L) : ∃ A c, v = .slice A L.length c ∧ L.length ≤ c ∧ c ≤ 9223372036854775807 ∧ ∀ j (hj : j < L.length), ∃ b off, A = some ⟨b, off, none⟩ ∧ VCell w b (off + j * 4) L[j] := by
  obtain ⟨A, c, hv, h1, ⟨h2, _⟩, h3, h4⟩ := h
  refine ⟨A, c, hv, h1, h2, fun j hj => ?_⟩
  have at_ : ∀ r, r < 4 → (vtcs L)[j * 4 + r]? = (vtc L[j])[r]? := fun r hr => rows_at vtc 4 vtc_len L j r hj hr
  obtain ⟨b, off, ha, c0⟩ := h4 (j * 4 + 0) _ (at_ 0 (by decide))
  have g : ∀ r u, r < 4 → (vtc L[j])[r]? = some u → w.cell? ⟨b, off + j * 4 + r, none⟩ = some u := fun r u hr hu => by
    obtain ⟨b', off', ha', c'⟩ := h4 (j * 4 + r) u (by rw [at_ r hr]; exact hu)
    rw [ha] at ha'
    injection ha' with ha'
    injection ha' with e1 e2
    subst e1 e2
    rw [Nat.add_assoc]
    exact c'
  exact ⟨b, off, ha, g 0 _ (by decide) rfl, g 1 _ (by decide) rfl, g 2 _ (by decide) rfl, g 3 _ (by decide) rfl⟩
theorem VV.of {w : World} {A : Option Addr} {c : Nat} {L : List Vt} (h1 : L.length ≤ c) (h2 : c ≤ maxLen) (h3 : A = Option.none → c = 0) (h : ∀ j (hj : j < L.length), ∃ b off, A = some ⟨b, off, none⟩ ∧ VCell w b (off + j * 4) L[j]) : VV w (.slice A L.length c) L := by
  refine ⟨A, c, rfl, h1, ⟨h2, h3⟩, vtcs_len L, fun j u hj => ?_⟩
  obtain ⟨q, r, hq, hr, rfl, hu⟩ := rows_of vtc 4 vtc_len (by decide) L j u hj
  obtain ⟨b, off, ha, c0, c1, c2, c3⟩ := h q hq
  refine ⟨b, off, ha, ?_⟩
  rw [← Nat.add_assoc]
  match r, hr with
  | 0, _ => injection hu with hu; rw [← hu]; exact c0
  | 1, _ => injection hu with hu; rw [← hu]; exact c1
  | 2, _ => injection hu with hu; rw [← hu]; exact c2
  | 3, _ => injection hu with hu; rw [← hu]; exact c3
theorem VV.nil (w : World) : VV w (.slice none 0 0) [] := SL.nil w 4
/-- The call owns the slice v from block B on: it reads as these votes. -/
def VO (w : World) (B : Nat) (v : Value) (L : List Vt) : Prop := w.ownsRow B 44 4 v L.length (vtcs L)
theorem VO.gr {w w' : World} {B : Nat} {v : Value} {L : List Vt} (h : VO w B v L) (g : Gr w w') : VO w' B v L := own_gr h g
theorem VO.le {w : World} {B B' : Nat} {v : Value} {L : List Vt} (h : VO w B v L) (hb : B' ≤ B) : VO w B' v L := own_le h hb
theorem VO.nil (w : World) (B : Nat) : VO w B (.slice none 0 0) [] := World.ownsRow_nil w B _ _
theorem VO.vv {w : World} {B : Nat} {v : Value} {L : List Vt} (h : VO w B v L) : VV w v L := own_sl h
theorem VO.form {w : World} {B : Nat} {v : Value} {L : List Vt} (h : VO w B v L) : ∃ A c, v = .slice A L.length c ∧ L.length ≤ c ∧ c ≤ 9223372036854775807 := own_form h
theorem infoVt : (Try.prog.info? 44).map (fun i => (i.zero, i.size, i.bytes)) = some (some (.agg #[.int .i64 0, .int .u64 0, .int .u64 0, .string ⟨#[]⟩]), 4, 40) := by kernel_rfl
theorem infoI64 : (Try.prog.info? 3).map (fun i => (i.zero, i.size, i.bytes)) = some (some (.int .i64 0), 1, 8) := by kernel_rfl
/-- What a vote's parts may be. -/
structure FitVt (v : Vt) : Prop where
  who : -9223372036854775808 ≤ v.who ∧ v.who ≤ 9223372036854775807
  bal : v.bal < 18446744073709551616
  at' : v.at' < 18446744073709551616
  val : v.val.size ≤ 281474976710656
def ucell (z : Nat) : Value := .int .u64 (z : Int)
def ycell (z : Nat) : Value := .int .u8 (z : Int)
/-- The slice value v reads as these numbers. -/
def UV (w : World) (v : Value) (K : List Nat) : Prop := SL w 1 v K.length (K.map ucell)
theorem UV.gr {w w' : World} {v : Value} {K : List Nat} (h : UV w v K) (g : Gr w w') : UV w' v K := SL.gr h g
theorem UV.form {w : World} {v : Value} {K : List Nat} (h : UV w v K) : ∃ A c, v = .slice A K.length c ∧ K.length ≤ c ∧ c ≤ 9223372036854775807 ∧ ∀ j (hj : j < K.length), ∃ b off, A = some ⟨b, off, none⟩ ∧ w.cell? ⟨b, off + j, none⟩ = some (.int .u64 (K[j] : Int)) := by
  obtain ⟨A, c, hv, h1, ⟨h2, _⟩, h3, h4⟩ := h
  refine ⟨A, c, hv, h1, h2, fun j hj => h4 j _ (by rw [List.getElem?_map, List.getElem?_eq_getElem hj]; rfl)⟩
/-- The slice value v reads as these bytes. -/
def YB (w : World) (v : Value) (K : List Nat) : Prop := SL w 1 v K.length (K.map ycell)
theorem YB.gr {w w' : World} {v : Value} {K : List Nat} (h : YB w v K) (g : Gr w w') : YB w' v K := SL.gr h g
theorem YB.form {w : World} {v : Value} {K : List Nat} (h : YB w v K) : ∃ A c, v = .slice A K.length c ∧ K.length ≤ c ∧ c ≤ 9223372036854775807 ∧ ∀ j (hj : j < K.length), ∃ b off, A = some ⟨b, off, none⟩ ∧ w.cell? ⟨b, off + j, none⟩ = some (.int .u8 (K[j] : Int)) := by
  obtain ⟨A, c, hv, h1, ⟨h2, _⟩, h3, h4⟩ := h
  refine ⟨A, c, hv, h1, h2, fun j hj => h4 j _ (by rw [List.getElem?_map, List.getElem?_eq_getElem hj]; rfl)⟩
end Go.Proofs.Ytboonfbbnidmbaa
