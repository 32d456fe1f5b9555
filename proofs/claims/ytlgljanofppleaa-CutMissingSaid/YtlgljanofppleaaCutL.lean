/- Logs as they are read: an array of eight slices of transactions; the arguments of the laws opened. -/
import Derived.Test.YtlgljanofppleaaCutM
import Derived.Test.YtlgljanofppleaaTxO
namespace Go.Proofs.Ytlgljanofppleaa
open Go.ChangeShapes Go.WideShapes Go.RowKit Go.Deep

/-- A slice's three parts. -/
structure S3 where
  a : Option Addr
  n : Nat
  c : Nat
abbrev S3.v (s : S3) : Value := .slice s.a s.n s.c
abbrev lcells (u : Nat → S3) : Array Value := #[.slice (u 0).a (u 0).n (u 0).c, .slice (u 1).a (u 1).n (u 1).c, .slice (u 2).a (u 2).n (u 2).c, .slice (u 3).a (u 3).n (u 3).c, .slice (u 4).a (u 4).n (u 4).c, .slice (u 5).a (u 5).n (u 5).c, .slice (u 6).a (u 6).n (u 6).c, .slice (u 7).a (u 7).n (u 7).c]
theorem lcells_at (u : Nat → S3) {k : Nat} (hk : k < 8) : (lcells u)[k]? = some (.slice (u k).a (u k).n (u k).c) := by
  match k, hk with
  | 0, _ => rfl
  | 1, _ => rfl
  | 2, _ => rfl
  | 3, _ => rfl
  | 4, _ => rfl
  | 5, _ => rfl
  | 6, _ => rfl
  | 7, _ => rfl
/-- The eight slices read as the logs. -/
def LV (w : World) (u : Nat → S3) (l : LG) : Prop := ∀ i, i < 8 → XV w (.slice (u i).a (u i).n (u i).c) (l i)
theorem LV.len {w : World} {u : Nat → S3} {l : LG} (h : LV w u l) {i : Nat} (hi : i < 8) : (u i).n = (l i).length := by
  obtain ⟨A, c, hv, _⟩ := h i hi
  injection hv
theorem LV.gr {w w' : World} {u : Nat → S3} {l : LG} (h : LV w u l) (g : Gr w w') : LV w' u l := fun i hi => (h i hi).gr g
theorem LV.congr {w : World} {u : Nat → S3} {l l' : LG} (h : LV w u l) (e : ∀ i, i < 8 → l i = l' i) : LV w u l' := fun i hi => by rw [← e i hi]; exact h i hi
/-- A transaction whose vector has no ninth number. -/
def Can (t : TX) : Prop := ∀ k, 8 ≤ k → t.deps k = 0
def can (t : TX) : TX := ⟨t.origin, t.seq, t.stamp, fun k => if k < 8 then t.deps k else 0, t.ops⟩
theorem can_can (t : TX) : Can (can t) := fun k hk => if_neg (by omega)
theorem xcell_can {w : World} {b off : Nat} {t : TX} (h : XCell w b off t) : XCell w b off (can t) := by
  obtain ⟨v, h0, h1⟩ := h
  exact ⟨v, h0, h1⟩
theorem fit_can {t : TX} (h : FitX t) : FitX (can t) := ⟨h.origin, h.seq, h.stamp, fun k hk => by show (if _ then _ else _) < _; rw [if_pos hk]; exact h.deps k hk, h.ops, h.len⟩
theorem xv_can {w : World} {v : Value} {L : List TX} (h : XV w v L) : XV w v (L.map can) := by
  obtain ⟨A, c, hv, h1, h2, h3⟩ := h
  refine ⟨A, c, by rw [List.length_map]; exact hv, by rw [List.length_map]; exact h1, h2, fun j hj => ?_⟩
  rw [List.length_map] at hj
  obtain ⟨b, off, ha, hc⟩ := h3 j hj
  rw [List.getElem_map]
  exact ⟨b, off, ha, xcell_can hc⟩
/-- What logs that were handed in may hold. -/
structure FitL (l : LG) : Prop where
  fit : ∀ i t, i < 8 → t ∈ l i → FitX t
  can : ∀ i t, i < 8 → t ∈ l i → Can t
  len : ∀ i, i < 8 → ((l i).length + 1) * 112 ≤ 140737488355328
theorem same_can {a b : TX} (ha : Can a) (hb : Can b) : sameT a b = true ↔ a = b := by
  refine ⟨fun h => ?_, fun h => by subst h; exact sameT_self a⟩
  unfold sameT at h
  rw [Bool.and_eq_true, Bool.and_eq_true, Bool.and_eq_true, Bool.and_eq_true, beq_iff_eq, beq_iff_eq, beq_iff_eq, eqB_iff, tsameB_iff] at h
  obtain ⟨h1, h2, h3, h4, h5⟩ := h
  obtain ⟨o, s, p, d, q⟩ := a
  obtain ⟨o', s', p', d', q'⟩ := b
  simp only at h1 h2 h3 h4 h5
  subst h1 h2 h3 h5
  have : d = d' := funext fun k => by
    rcases Nat.lt_or_ge k 8 with h | h
    · exact h4 k h
    · exact (ha k h).trans (hb k h).symm
  rw [this]
theorem sameL_can {La Lb : List TX} (ha : ∀ t ∈ La, Can t) (hb : ∀ t ∈ Lb, Can t) : sameL La Lb = true ↔ La = Lb := by
  refine ⟨fun h => ?_, fun h => by subst h; exact sameL_self La⟩
  have hl : La.length = Lb.length := by
    by_cases e : La.length = Lb.length
    · exact e
    · rw [sameL_len e] at h; cases h
  refine List.ext_getElem hl fun j h1 h2 => ?_
  exact (same_can (ha _ (List.getElem_mem h1)) (hb _ (List.getElem_mem h2))).1 ((sameL_at hl).1 h j h1 h2)
theorem cellsTxs : Try.prog.cellsOf 22 = 1 := by kernel_rfl
theorem cellsLogs : Try.prog.cellsOf 24 = 8 := by kernel_rfl

section
variable {H : Type} {enc : TypeId × Value → H} {W : World} {base : Nat} {v : Value} {d : DataW H} {p : List MemPlace}
set_option maxRecDepth 100000 in
/-- An argument that is logs. -/
theorem open_logs (hval : Value.okWide Try.prog W .any base 24 v) (h : DataW.Trod enc Try.prog W 0 (fun _ => true) true 24 v d p) (hw : ∀ q ∈ DataW.weights Try.prog 24 d, q ≤ reachBytes) :
    ∃ (u : Nat → S3) (l : LG), v = .agg (lcells u) ∧ LV W u l ∧ FitL l := by
  obtain ⟨cs, rfl, hsz, _⟩ : ∃ cs, v = .agg cs ∧ cs.size = Try.prog.cellsOf 24 ∧ Row.okWide Try.prog W .any base 24 cs := by
    simpa [Value.okWide, Try.underlying24] using hval
  rw [cellsLogs] at hsz
  obtain ⟨fuel, hf⟩ := h
  obtain ⟨xs, m, rfl, hx, hl, hxl, hall⟩ := DataW.trod_array Try.underlying24 hf
  obtain ⟨l⟩ := cs
  obtain ⟨c0, c1, c2, c3, c4, c5, c6, c7, rfl⟩ := list_of8 l (by simpa using hsz)
  obtain ⟨y0, y1, y2, y3, y4, y5, y6, y7, rfl⟩ := list_of8 xs hxl
  injection hx with hd hpl
  subst hd
  have hw' : ∀ y ∈ [y0, y1, y2, y3, y4, y5, y6, y7], ∀ q ∈ DataW.weights Try.prog 22 y.1, q ≤ reachBytes := fun y hy q hq => hw q (by
    simp only [DataW.weights, Try.underlying24]
    exact weightsAll_mem (List.mem_map_of_mem hy) hq)
  rw [cellsTxs] at hall
  have one : ∀ (c : Value) (y : DataW H × List MemPlace), y ∈ [y0, y1, y2, y3, y4, y5, y6, y7] → DataW.trod enc Try.prog W 0 (fun _ => true) true m 22 [c] = some y → ∃ L : List TX, XV W c L ∧ (∀ t ∈ L, FitX t) ∧ (∀ t ∈ L, Can t) ∧ (L.length + 1) * 112 ≤ 140737488355328 := fun c y hy hc => by
    obtain ⟨L, hv, hfx, hlen⟩ := trod_txs hc (hw' y hy)
    refine ⟨L.map can, xv_can hv, fun t ht => ?_, fun t ht => ?_, by rw [List.length_map]; exact hlen⟩
    · obtain ⟨u, hu, rfl⟩ := List.mem_map.1 ht
      exact fit_can (hfx u hu)
    · obtain ⟨u, hu, rfl⟩ := List.mem_map.1 ht
      exact can_can u
  obtain ⟨L0, a0, f0, g0, n0⟩ := one c0 y0 (by simp) (hall 0 (by decide))
  obtain ⟨A0, k0, rfl⟩ := xv_form a0
  obtain ⟨L1, a1, f1, g1, n1⟩ := one c1 y1 (by simp) (hall 1 (by decide))
  obtain ⟨A1, k1, rfl⟩ := xv_form a1
  obtain ⟨L2, a2, f2, g2, n2⟩ := one c2 y2 (by simp) (hall 2 (by decide))
  obtain ⟨A2, k2, rfl⟩ := xv_form a2
  obtain ⟨L3, a3, f3, g3, n3⟩ := one c3 y3 (by simp) (hall 3 (by decide))
  obtain ⟨A3, k3, rfl⟩ := xv_form a3
  obtain ⟨L4, a4, f4, g4, n4⟩ := one c4 y4 (by simp) (hall 4 (by decide))
  obtain ⟨A4, k4, rfl⟩ := xv_form a4
  obtain ⟨L5, a5, f5, g5, n5⟩ := one c5 y5 (by simp) (hall 5 (by decide))
  obtain ⟨A5, k5, rfl⟩ := xv_form a5
  obtain ⟨L6, a6, f6, g6, n6⟩ := one c6 y6 (by simp) (hall 6 (by decide))
  obtain ⟨A6, k6, rfl⟩ := xv_form a6
  obtain ⟨L7, a7, f7, g7, n7⟩ := one c7 y7 (by simp) (hall 7 (by decide))
  obtain ⟨A7, k7, rfl⟩ := xv_form a7
  refine ⟨fun k => match k with | 0 => ⟨A0, L0.length, k0⟩ | 1 => ⟨A1, L1.length, k1⟩ | 2 => ⟨A2, L2.length, k2⟩ | 3 => ⟨A3, L3.length, k3⟩ | 4 => ⟨A4, L4.length, k4⟩ | 5 => ⟨A5, L5.length, k5⟩ | 6 => ⟨A6, L6.length, k6⟩ | _ => ⟨A7, L7.length, k7⟩, fun k => match k with | 0 => L0 | 1 => L1 | 2 => L2 | 3 => L3 | 4 => L4 | 5 => L5 | 6 => L6 | _ => L7, rfl, fun k hk => ?_, fun k t hk => ?_, fun k t hk => ?_, fun k hk => ?_⟩
  · match k, hk with
    | 0, _ => exact a0
    | 1, _ => exact a1
    | 2, _ => exact a2
    | 3, _ => exact a3
    | 4, _ => exact a4
    | 5, _ => exact a5
    | 6, _ => exact a6
    | 7, _ => exact a7
  · match k, hk with
    | 0, _ => exact f0 t
    | 1, _ => exact f1 t
    | 2, _ => exact f2 t
    | 3, _ => exact f3 t
    | 4, _ => exact f4 t
    | 5, _ => exact f5 t
    | 6, _ => exact f6 t
    | 7, _ => exact f7 t
  · match k, hk with
    | 0, _ => exact g0 t
    | 1, _ => exact g1 t
    | 2, _ => exact g2 t
    | 3, _ => exact g3 t
    | 4, _ => exact g4 t
    | 5, _ => exact g5 t
    | 6, _ => exact g6 t
    | 7, _ => exact g7 t
  · match k, hk with
    | 0, _ => exact n0
    | 1, _ => exact n1
    | 2, _ => exact n2
    | 3, _ => exact n3
    | 4, _ => exact n4
    | 5, _ => exact n5
    | 6, _ => exact n6
    | 7, _ => exact n7
end
set_option maxRecDepth 100000 in
/-- An argument that is a vector. -/
theorem open_vecc {H : Type} {enc : TypeId × Value → H} {W : World} {base B : Nat} {sp : Nat → Bool} {held : Bool} {v : Value} {d : DataW H} {p : List MemPlace}
    (hw : Value.okWide Try.prog W .any base 34 v) (h : DataW.Trod enc Try.prog W B sp held 34 v d p) : ∃ a : Nat → Nat, v = .agg (vcells a) ∧ ∀ k, k < 8 → a k < 18446744073709551616 := by
  obtain ⟨cs, rfl, hsz, _⟩ : ∃ cs, v = .agg cs ∧ cs.size = Try.prog.cellsOf 34 ∧ Row.okWide Try.prog W .any base 34 cs := by
    simpa [Value.okWide, Try.underlying34] using hw
  rw [cellsTVec] at hsz
  obtain ⟨fuel, hf⟩ := h
  obtain ⟨xs, m, rfl, hx, hl, hxl, hall⟩ := DataW.trod_array Try.underlying34 hf
  obtain ⟨l⟩ := cs
  obtain ⟨c0, c1, c2, c3, c4, c5, c6, c7, rfl⟩ := list_of8 l (by simpa using hsz)
  obtain ⟨y0, y1, y2, y3, y4, y5, y6, y7, rfl⟩ := list_of8 xs hxl
  have one : ∀ (c : Value) (y : DataW H × List MemPlace), DataW.trod enc Try.prog W B sp held m 32 [c] = some y → ∃ n : Nat, c = .int .u64 (n : Int) ∧ n < 18446744073709551616 := fun c y hy => by
    obtain ⟨x, e, _, w⟩ := DataW.trod_int Try.underlying32 hy
    have b := bounds_u64 w
    obtain ⟨n, rfl⟩ := Int.eq_ofNat_of_zero_le b.1
    exact ⟨n, by simpa using e, by omega⟩
  rw [cellsTU64] at hall
  obtain ⟨n0, rfl, b0⟩ := one c0 y0 (hall 0 (by decide))
  obtain ⟨n1, rfl, b1⟩ := one c1 y1 (hall 1 (by decide))
  obtain ⟨n2, rfl, b2⟩ := one c2 y2 (hall 2 (by decide))
  obtain ⟨n3, rfl, b3⟩ := one c3 y3 (hall 3 (by decide))
  obtain ⟨n4, rfl, b4⟩ := one c4 y4 (hall 4 (by decide))
  obtain ⟨n5, rfl, b5⟩ := one c5 y5 (hall 5 (by decide))
  obtain ⟨n6, rfl, b6⟩ := one c6 y6 (hall 6 (by decide))
  obtain ⟨n7, rfl, b7⟩ := one c7 y7 (hall 7 (by decide))
  refine ⟨fun k => match k with | 0 => n0 | 1 => n1 | 2 => n2 | 3 => n3 | 4 => n4 | 5 => n5 | 6 => n6 | _ => n7, rfl, fun k hk => ?_⟩
  match k, hk with
  | 0, _ => exact b0
  | 1, _ => exact b1
  | 2, _ => exact b2
  | 3, _ => exact b3
  | 4, _ => exact b4
  | 5, _ => exact b5
  | 6, _ => exact b6
  | 7, _ => exact b7
end Go.Proofs.Ytlgljanofppleaa
