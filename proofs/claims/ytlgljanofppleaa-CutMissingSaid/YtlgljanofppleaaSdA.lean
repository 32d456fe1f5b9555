/- Stands as they are read; walks: comparing them. -/
import Derived.Test.YtlgljanofppleaaCutB
import Derived.Test.YtlgljanofppleaaQTail
import Derived.Test.YtlgljanofppleaaObj
import Derived.Test.YtlgljanofppleaaSfL
namespace Go.Proofs.Ytlgljanofppleaa
open Go.RowKit Go.Joins
set_option linter.unusedSimpArgs false
set_option linter.unusedVariables false

/-- A stand: the place of its transaction in memory, the transaction, its member, its place. -/
structure ST where
  b : Nat
  o : Nat
  t : TX
  m : Nat
  k : Nat
def scell (d : ST) : List Value := [.pointer (some ⟨d.b, d.o, none⟩), .int .i64 (d.m : Int), .int .i64 (d.k : Int)]
theorem scell_len (d : ST) : (scell d).length = 3 := rfl
def scells (L : List ST) : List Value := L.flatMap scell
theorem scells_len (L : List ST) : (scells L).length = L.length * 3 := rows_len scell 3 scell_len L
theorem scells_one (L : List ST) : ∀ u ∈ scells L, u.oneCell' = true := by
  intro u hu
  obtain ⟨f, _, hf⟩ := List.mem_flatMap.1 hu
  unfold scell at hf
  simp only [List.mem_cons, List.not_mem_nil, or_false] at hf
  rcases hf with rfl | rfl | rfl <;> rfl
/-- A deed lies at this place. -/
def SCell (w : World) (b off : Nat) (d : ST) : Prop := w.cell? ⟨b, off, none⟩ = some (.pointer (some ⟨d.b, d.o, none⟩)) ∧ w.cell? ⟨b, off + 1, none⟩ = some (.int .i64 (d.m : Int)) ∧ w.cell? ⟨b, off + 2, none⟩ = some (.int .i64 (d.k : Int))
/-- The slice value v reads as the deeds L. -/
def SDV (w : World) (v : Value) (L : List ST) : Prop :=
  ∃ A c, v = .slice A L.length c ∧ L.length ≤ c ∧ (c ≤ maxLen ∧ (A = Option.none → c = 0)) ∧ ∀ j (hj : j < L.length), ∃ b off, A = some ⟨b, off, none⟩ ∧ SCell w b (off + j * 3) L[j]
theorem SCell.gr {w w' : World} {b off : Nat} {f : ST} (h : SCell w b off f) (g : Gr w w') : SCell w' b off f := ⟨g.cell h.1, g.cell h.2.1, g.cell h.2.2⟩
theorem SDV.gr {w w' : World} {v : Value} {L : List ST} (h : SDV w v L) (g : Gr w w') : SDV w' v L := by
  obtain ⟨A, c, hv, h1, h2, h3⟩ := h
  refine ⟨A, c, hv, h1, h2, fun j hj => ?_⟩
  obtain ⟨b, off, ha, hc⟩ := h3 j hj
  exact ⟨b, off, ha, hc.gr g⟩
theorem sdv_form {w : World} {v : Value} {L : List ST} (h : SDV w v L) : ∃ A c, v = .slice A L.length c := by
  obtain ⟨A, c, hv, _⟩ := h
  exact ⟨A, c, hv⟩
theorem SDV.sl {w : World} {v : Value} {L : List ST} (h : SDV w v L) : SL w 3 v L.length (scells L) := by
  obtain ⟨A, c, hv, h1, h2, h3⟩ := h
  refine ⟨A, c, hv, h1, h2, scells_len L, fun j u hj => ?_⟩
  obtain ⟨q, r, hq, hr, rfl, hu⟩ := rows_of scell 3 scell_len (by decide) L j u hj
  obtain ⟨b, off, ha, c0, c1, c2⟩ := h3 q hq
  refine ⟨b, off, ha, ?_⟩
  rw [← Nat.add_assoc]
  match r, hr with
  | 0, _ => injection hu with hu; rw [← hu]; exact c0
  | 1, _ => injection hu with hu; rw [← hu]; exact c1
  | 2, _ => injection hu with hu; rw [← hu]; exact c2
theorem SDV.of_sl {w : World} {v : Value} {L : List ST} {n : Nat} (h : SL w 3 v n (scells L)) : SDV w v L := by
  obtain ⟨A, c, hv, h1, ⟨h2, h2'⟩, h3, h4⟩ := h
  have hn : L.length = n := by
    rw [scells_len] at h3
    omega
  subst hn
  refine ⟨A, c, hv, h1, ⟨h2, h2'⟩, fun j hj => ?_⟩
  have at_ : ∀ r, r < 3 → (scells L)[j * 3 + r]? = (scell L[j])[r]? := fun r hr => rows_at scell 3 scell_len L j r hj hr
  obtain ⟨b, off, ha, c0⟩ := h4 (j * 3 + 0) _ (at_ 0 (by decide))
  obtain ⟨b', off', ha', c1⟩ := h4 (j * 3 + 1) _ (at_ 1 (by decide))
  obtain ⟨b2, off2, ha2, c2⟩ := h4 (j * 3 + 2) _ (at_ 2 (by decide))
  rw [ha] at ha' ha2
  injection ha' with ha'
  injection ha' with e1 e2
  subst e1 e2
  injection ha2 with ha2
  injection ha2 with e1 e2
  subst e1 e2
  refine ⟨b, off, ha, c0, ?_, ?_⟩
  · rw [Nat.add_assoc]; exact c1
  · rw [Nat.add_assoc]; exact c2
/-- The call owns the slice v from block B on: it reads as these deeds. -/
def SDO (w : World) (B : Nat) (v : Value) (L : List ST) : Prop := w.ownsRow B 66 3 v L.length (scells L)
theorem SDO.gr {w w' : World} {B : Nat} {v : Value} {L : List ST} (h : SDO w B v L) (g : Gr w w') : SDO w' B v L := own_gr h g
theorem SDO.le {w : World} {B B' : Nat} {v : Value} {L : List ST} (h : SDO w B v L) (hb : B' ≤ B) : SDO w B' v L := own_le h hb
theorem SDO.nil (w : World) (B : Nat) : SDO w B (.slice none 0 0) [] := World.ownsRow_nil w B _ _
theorem SDO.dv {w : World} {B : Nat} {v : Value} {L : List ST} (h : SDO w B v L) : SDV w v L := SDV.of_sl (own_sl h)
theorem infoStand : (Try.prog.info? 66).map (fun i => (i.zero, i.size, i.bytes)) = some (some (.agg #[.pointer none, .int .i64 0, .int .i64 0]), 3, 24) := by kernel_rfl
/-- append of deeds to a row of the call's own. -/
theorem wpList_push_sd {W w0 : World} {ops : Array Oper} {rest : List Oper} {o : Oper} {a : Act} {Q : Exit → Act → World → Prop} (hw : Region.wanted o (yielded ops a.tmps) = true) (s x : Operand)
    (ho : o.op = .call { callee := .builtin .append, args := #[s, x], argTypes := #[61, 61] })
    (v vx : Value) (L M : List ST) (n m : Nat) (hn : n = L.length) (hm : m = M.length) (hs : a.eval s = v) (hown : SDO W w0.heap.size v L) (hx : a.eval x = vx) (hxv : SDV W vx M) (hlen : (n + m) * 24 ≤ 140737488355328) (hg : Gr w0 W)
    (h : ∀ A' c' w', SDO w' w0.heap.size (.slice A' (n + m) c') (L ++ M) → Gr w0 w' → wpList Try.prog ops Q rest (a.put o.dst (.slice A' (n + m) c')) w') :
    wpList Try.prog ops Q (o :: rest) a W := by
  subst hn hm
  obtain ⟨i0, hi, hz0, hz1, hz2⟩ := info_parts infoStand
  have hsz := hg.size
  refine Go.BigFrame.wpList_want hw (fun K hK => ?_)
  refine wp_append_sl W s x 61 ho w0.heap.size 66 i0 _ 3 24 Try.underlying61 hi hz0 hz1 hz2 rfl (by decide) v L.length (scells L) hs hown vx M.length (scells M) hx
    hxv.sl (scells_one M) (by unfold maxLen; omega) hlen hsz (L.length + M.length) rfl ?_
  intro A' c' w' hown' hgr _
  refine hK _ _ (h A' c' w' ?_ (gr_of_grown hg hown hgr hsz))
  unfold SDO
  rw [List.length_append]
  unfold scells at hown' ⊢
  rw [List.flatMap_append]
  exact hown'
theorem sdv_one (w : World) (d : ST) (b : Nat) (hb : b = w.heap.size) : SDV (w.alloc (.cells #[.pointer (some ⟨d.b, d.o, none⟩), .int .i64 (d.m : Int), .int .i64 (d.k : Int)] 66)) (.slice (some ⟨b, 0, none⟩) 1 1) [d] := by
  subst hb
  refine ⟨_, 1, rfl, Nat.le_refl _, ⟨by decide, fun h => by cases h⟩, fun j hj => ⟨w.heap.size, 0, rfl, ?_⟩⟩
  have hj0 : j = 0 := by simpa using hj
  subst hj0
  refine ⟨?_, ?_, ?_⟩ <;> (rw [World.cell?_alloc_mark]; rfl)

/-- As cmp.Compare tells. -/
def cmpZ (a b : Int) : Int := if a < b then -1 else if b < a then 1 else 0
/-- The first that is not nought. -/
def orL : List Int → Int
  | [] => 0
  | x :: r => if x = 0 then orL r else x
def ordC (x y : ST) : Int := orL [cmpZ x.t.stamp y.t.stamp, cmpZ x.t.origin y.t.origin, cmpZ x.t.seq y.t.seq, cmpZ x.m y.m, cmpZ x.k y.k]
set_option maxRecDepth 100000 in
set_option maxHeartbeats 2000000 in
theorem nan_u64 (a : Int) (w : World) : Calls Try.prog 82 #[.int .u64 a] w fun e w' => e = .returned (.bool false) ∧ w' = w := by
  go_enter Try.func82, Try.ntmps82
  go_wp2_with fail
  go_ret
  exact ⟨rfl, rfl⟩
set_option maxRecDepth 100000 in
set_option maxHeartbeats 2000000 in
theorem nan_int (a : Int) (w : World) : Calls Try.prog 83 #[.int .i64 a] w fun e w' => e = .returned (.bool false) ∧ w' = w := by
  go_enter Try.func83, Try.ntmps83
  go_wp2_with fail
  go_ret
  exact ⟨rfl, rfl⟩
set_option maxRecDepth 100000 in
set_option maxHeartbeats 2000000 in
theorem cmp_u64 (a b : Int) (w : World) : Calls Try.prog 60 #[.int .u64 a, .int .u64 b] w fun e w' => e = .returned (.int .i64 (cmpZ a b)) ∧ w' = w := by
  obtain ⟨r, hr⟩ : ∃ r, r = cmpZ a b := ⟨_, rfl⟩
  rw [← hr]
  have HR := Lib.hid hr
  clear hr
  go_enter Try.func60, Try.ntmps60
  go_wp2_with fail
  refine (nan_u64 a w).mono ?_
  rintro e w1 ⟨rfl, hw1⟩
  subst hw1
  go_wp2_with fail
  refine (nan_u64 b w1).mono ?_
  rintro e w2 ⟨rfl, hw2⟩
  subst hw2
  by_cases h1 : a < b
  · have HE : Hid (r = -1) := Lib.hid (by rw [HR.out]; unfold cmpZ; rw [if_pos h1])
    go_wp2_with fail
    go_ret
    exact ⟨by rw [HE.out]; rfl, rfl⟩
  · by_cases h2 : b < a
    · have HE : Hid (r = 1) := Lib.hid (by rw [HR.out]; unfold cmpZ; rw [if_neg h1, if_pos h2])
      go_wp2_with fail
      go_ret
      exact ⟨by rw [HE.out]; rfl, rfl⟩
    · have HE : Hid (r = 0) := Lib.hid (by rw [HR.out]; unfold cmpZ; rw [if_neg h1, if_neg h2])
      go_wp2_with fail
      go_ret
      exact ⟨by rw [HE.out]; rfl, rfl⟩
set_option maxRecDepth 100000 in
set_option maxHeartbeats 2000000 in
theorem cmp_int (a b : Int) (w : World) : Calls Try.prog 61 #[.int .i64 a, .int .i64 b] w fun e w' => e = .returned (.int .i64 (cmpZ a b)) ∧ w' = w := by
  obtain ⟨r, hr⟩ : ∃ r, r = cmpZ a b := ⟨_, rfl⟩
  rw [← hr]
  have HR := Lib.hid hr
  clear hr
  go_enter Try.func61, Try.ntmps61
  go_wp2_with fail
  refine (nan_int a w).mono ?_
  rintro e w1 ⟨rfl, hw1⟩
  subst hw1
  go_wp2_with fail
  refine (nan_int b w1).mono ?_
  rintro e w2 ⟨rfl, hw2⟩
  subst hw2
  by_cases h1 : a < b
  · have HE : Hid (r = -1) := Lib.hid (by rw [HR.out]; unfold cmpZ; rw [if_pos h1])
    go_wp2_with fail
    go_ret
    exact ⟨by rw [HE.out]; rfl, rfl⟩
  · by_cases h2 : b < a
    · have HE : Hid (r = 1) := Lib.hid (by rw [HR.out]; unfold cmpZ; rw [if_neg h1, if_pos h2])
      go_wp2_with fail
      go_ret
      exact ⟨by rw [HE.out]; rfl, rfl⟩
    · have HE : Hid (r = 0) := Lib.hid (by rw [HR.out]; unfold cmpZ; rw [if_neg h1, if_neg h2])
      go_wp2_with fail
      go_ret
      exact ⟨by rw [HE.out]; rfl, rfl⟩
theorem orL_take (L : List Int) : ∀ j, (∀ i (h : i < L.length), i < j → L[i] = 0) → (hj : j < L.length) → L[j] ≠ 0 → orL L = L[j] := by
  induction L with
  | nil => intro j _ hj; simp at hj
  | cons x r ih =>
    intro j h hj hne
    cases j with
    | zero => unfold orL; exact if_neg hne
    | succ j =>
      have hx : x = 0 := h 0 (by simp) (by omega)
      unfold orL
      rw [if_pos hx]
      exact ih j (fun i hi hij => h (i + 1) (by simpa using hi) (by omega)) (by simpa using hj) hne
theorem orL_zero (L : List Int) (h : ∀ i (hi : i < L.length), L[i] = 0) : orL L = 0 := by
  induction L with
  | nil => rfl
  | cons x r ih =>
    have hx : x = 0 := h 0 (by simp)
    unfold orL
    rw [if_pos hx]
    exact ih fun i hi => h (i + 1) (by simpa using hi)
set_option maxRecDepth 100000 in
set_option maxHeartbeats 2000000 in
theorem or_any (L : List Int) (b : Nat) (w : World) (hL : L.length ≤ 1000) (h : ∀ j (hj : j < L.length), w.cell? ⟨b, j, none⟩ = some (.int .i64 L[j])) :
    Calls Try.prog 59 #[.slice (some ⟨b, 0, none⟩) L.length L.length] w fun e w' => e = .returned (.int .i64 (orL L)) ∧ w' = w := by
  obtain ⟨n, hn⟩ : ∃ n, n = L.length := ⟨_, rfl⟩
  obtain ⟨r, hr⟩ : ∃ r, r = orL L := ⟨_, rfl⟩
  rw [← hr, ← hn]
  rw [← hn] at hL
  have HH := Lib.hid h
  have HN := Lib.hid hn
  have HR := Lib.hid hr
  clear h hn hr
  go_enter Try.func59, Try.ntmps59
  go_wp2_with fail
  go_loopw [8] (fun i wr => ∃ j : Nat, j ≤ n ∧ i = .int .i64 j ∧ Hid (∀ i (h : i < L.length), i < j → L[i] = 0) ∧ wr = w) (fun i _ => n - (intOf i).toNat)
  case atStart => exact ⟨0, Nat.zero_le _, rfl, Lib.hid (fun _ _ h => absurd h (Nat.not_lt_zero _)), rfl⟩
  case round =>
    obtain ⟨j, hj, rfl, hall, rfl⟩ := hrel
    by_cases hlt : j < n
    · have hj0 : (0 : Int) ≤ (j : Int) := Int.natCast_nonneg _
      have hj1 : (j : Int) < (n : Int) := by omega
      have hjl : j < L.length := by rw [← HN.out]; exact hlt
      have hc := HH.out j hjl
      obtain ⟨x, hx⟩ : ∃ x, x = L[j] := ⟨_, rfl⟩
      rw [← hx] at hc
      have HX := Lib.hid hx
      clear hx
      by_cases h0 : x = 0
      · have HA : Hid (∀ i (h : i < L.length), i < j + 1 → L[i] = 0) := Lib.hid fun i hi hij => by
          by_cases q : i = j
          · subst q; rw [← HX.out]; exact h0
          · exact hall.out i hi (by omega)
        subst h0
        go_wp2_with fail
        go_roundw
        case measure => simp [intOf]; omega
        case rel => exact ⟨j + 1, by omega, by go_num, HA, trivial⟩
      · have HE : Hid (r = x) := Lib.hid (by rw [HR.out, HX.out]; exact orL_take L j hall.out hjl (by rw [← HX.out]; exact h0))
        go_wp2_with fail
        go_ret
        exact ⟨by rw [HE.out]; rfl, rfl⟩
    · obtain rfl : j = n := by omega
      have HE : Hid (r = 0) := Lib.hid (by rw [HR.out]; exact orL_zero L fun i hi => hall.out i hi (by rw [HN.out]; exact hi))
      go_wp2_with fail
      go_ret
      exact ⟨by rw [HE.out]; rfl, rfl⟩
end Go.Proofs.Ytlgljanofppleaa
