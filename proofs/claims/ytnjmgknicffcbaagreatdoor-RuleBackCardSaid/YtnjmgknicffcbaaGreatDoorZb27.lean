/- A row of strings of the call's own: append in a region that draws its order; a pair of strings written out. Walks: slices.Clone of strings, value's copies. Walks: the document's Copy of a transaction; a transaction's box filled. Rows of transactions; walks: slices.Clone of operations and of transactions; the program's Copy of a transaction. -/
import Derived.Test.YtnjmgknicffcbaaGreatDoorZb18
import Derived.Test.YtnjmgknicffcbaaGreatDoorZb09
import Derived.Test.YtnjmgknicffcbaaGreatDoorZb05
import Derived.Test.YtnjmgknicffcbaaGreatDoorZb26
import Derived.Test.YtnjmgknicffcbaaGreatDoorZb06
import Derived.Test.YtnjmgknicffcbaaGreatDoorZb20
import Derived.Lib.SmallJoins
import Derived.Test.YtnjmgknicffcbaaGreatDoorZb24
import Derived.Test.YtnjmgknicffcbaaGreatDoorZb03
import Derived.Lib.SliceRun
namespace Go.Proofs.YtnjmgknicffcbaaGreatDoor
open Go.RowKit

section
variable {ops : Array Oper} {o : Oper} {a : Act} {W w0 : World} {K : Act → World → Prop} {Q : Exit → Act → World → Prop} {E : Prop}
theorem wpList_push_n {rest : List Oper} {Q : Exit → Act → World → Prop} (hgd : o.guard = none) (s x : Operand)
    (ho : o.op = .call { callee := .builtin .append, args := #[s, x], argTypes := #[93, 93] })
    (v vx : Value) (L M : List ByteArray) (n m : Nat) (hn : n = L.length) (hm : m = M.length) (hs : a.eval s = v) (hown : SO W w0.heap.size v L) (hx : a.eval x = vx) (hxv : SV W vx M) (hlen : (n + m) * 16 ≤ 140737488355328) (hg : Gr w0 W)
    (h : ∀ A' c' w', SO w' w0.heap.size (.slice A' (n + m) c') (L ++ M) → Gr w0 w' → wpList Tryz.prog ops Q rest (a.put o.dst (.slice A' (n + m) c')) w') :
    wpList Tryz.prog ops Q (o :: rest) a W := by
  subst hn hm
  exact wpList_push_strs hgd s x ho v vx L M hs hown hx hxv hlen hg (fun A' c' w' h1 h2 _ => h A' c' w' h1 h2)
end
end Go.Proofs.YtnjmgknicffcbaaGreatDoor
namespace Go.Proofs.YtnjmgknicffcbaaGreatDoor
open Go.RowKit Go.Joins
set_option linter.unusedSimpArgs false
set_option linter.unusedVariables false

def RetStrsV (T : List ByteArray) (w : World) (e : Ending) (w' : World) : Prop := ∃ v, e = .returned v ∧ SO w' w.heap.size v T ∧ Gr w w'
set_option maxRecDepth 100000 in
theorem sclonesV_any (v : Value) (T : List ByteArray) (w : World) (hv : SV w v T) (hlen : T.length * 16 ≤ 140737488355328) :
    Calls Tryz.prog 219 #[v] w fun e w' => RetStrsV T w e w' := by
  obtain ⟨A, c, hva, l1, ⟨_, l2⟩, l3⟩ := id hv
  have HV := Lib.hid hv
  subst hva
  clear hv
  cases A with
  | none =>
    have hn0 : T.length = 0 := by
      rcases Nat.eq_zero_or_pos T.length with h | h
      · exact h
      · obtain ⟨b, off, hh, _⟩ := l3 0 h
        cases hh
    have hL : T = [] := List.length_eq_zero_iff.1 hn0
    have hc0 := l2 rfl
    subst hL hc0
    clear l1 l2 l3 hn0
    have he : ∀ w : World, (binOp .eql 93 (.slice none 0 0) (.slice none 0 0)).run Tryz.prog w = .ok (.bool true) w := fun w => Lib.run_eql_slice_nil w 93 9 none 0 0 0 0 Tryz.underlying93
    go_enter Tryz.func219, Tryz.ntmps219
    go_wp2
    go_ret
    exact ⟨_, rfl, SO.nil _ _, Gr.refl _⟩
  | some ad =>
    obtain ⟨n, hn⟩ : ∃ n, n = T.length := ⟨_, rfl⟩
    have HN := Lib.hid hn
    rw [← hn] at HV ⊢
    have hz : (0 + n) * 16 ≤ 140737488355328 := by omega
    clear l1 l2 l3 hn hlen
    have he : ∀ w : World, (binOp .eql 93 (.slice (some ad) n c) (.slice none 0 0)).run Tryz.prog w = .ok (.bool false) w := fun w => Lib.run_eql_slice_nil w 93 9 (some ad) n c 0 0 Tryz.underlying93
    go_enter Tryz.func219, Tryz.ntmps219
    go_wp2_with (at_builtin; refine wpList_push_n (w0 := w) rfl (.tmp 5) (.tmp 6) rfl (.slice (some ⟨w.heap.size, 0, none⟩) 0 0) (.slice (some ad) n c) [] T 0 n rfl HN.out rfl (own_none w 9 1) rfl (HV.out.gr (gr_box _ _)) hz (gr_box _ _) ?_)
    intro A' c' w1 hown g1
    have HO := Lib.hid hown
    clear hown
    go_wp2
    go_ret
    exact ⟨_, rfl, HO.out, g1⟩
section
variable {w : World} {B g n c : Nat} {L : List ByteArray}
theorem SO.lenV (h : SO w B (.slice (some ⟨g, 0, none⟩) n c) L) : n = L.length ∧ L.length ≤ c ∧ c ≤ 9223372036854775807 ∧ B ≤ g ∧ g < w.heap.size := by
  rcases h.2 with ⟨hh, _⟩ | ⟨g', cap', cur, hh, hb, hg, hn, hm, _⟩
  · cases hh
  · injection hh with h1 h2 h3
    injection h1 with h1
    injection h1 with h1
    subst h1 h2 h3
    exact ⟨rfl, hn, hm, hb, (Array.getElem?_eq_some_iff.1 hg).1⟩
theorem SO.freeV (h : SO w B (.slice (some ⟨g, 0, none⟩) n c) L) (j : Nat) : w.frozen? ⟨g, j, none⟩ = false := by
  obtain ⟨rfl, _⟩ := h.lenV
  exact h.frozenAt j
theorem SO.addrV {v : Value} (h : SO w B v L) {i : Nat} (hi : i < L.length) : ∃ g c, v = .slice (some ⟨g, 0, none⟩) L.length c := by
  obtain ⟨g, c, hv, _⟩ := World.ownsRow.form h (by omega)
  exact ⟨g, c, hv⟩
theorem SO.atV (h : SO w B (.slice (some ⟨g, 0, none⟩) n c) L) {i : Nat} (hi : i < L.length) : w.cell? ⟨g, i, none⟩ = some (.string L[i]) := by
  obtain ⟨A, c', hv, _, _, hc⟩ := h.sv
  obtain ⟨b, off, ha, q⟩ := hc i hi
  injection hv with e1
  rw [← e1] at ha
  injection ha with ha
  injection ha with a1 a2
  subst a1 a2
  rw [Nat.zero_add] at q
  exact q
theorem SO.sameV (h : SO w B (.slice (some ⟨g, 0, none⟩) n c) L) {i : Nat} (hi : i < L.length) : SO (w.setCell ⟨g, i, none⟩ (.string L[i])) B (.slice (some ⟨g, 0, none⟩) n c) L := by
  obtain ⟨rfl, _⟩ := h.lenV
  obtain ⟨h1, _⟩ := h.stored i (.string L[i])
  have e : (L.map Value.string).set i (.string L[i]) = L.map Value.string := by
    have : (Value.string L[i]) = (L.map Value.string)[i]'(by simpa using hi) := by simp
    rw [this]
    exact List.set_getElem_self _
  rw [e] at h1
  exact h1
end

set_option maxRecDepth 100000 in
set_option maxHeartbeats 2000000 in
theorem copiesV_any (v : Value) (T : List ByteArray) (w : World) (hv : SV w v T) (hlen : T.length ≤ 1000000) (hs : ∀ s ∈ T, s.size ≤ 281474976710656) :
    Calls Tryz.prog 200 #[v] w fun e w' => RetStrsV T w e w' := by
  have HC := Lib.hid (sclonesV_any v T w hv (by omega))
  obtain ⟨A, c, hvf, hnc, ⟨hcm, -⟩, hat⟩ := hv
  subst hvf
  have HAT : Hid (∀ j (hj : j < T.length), ∃ b off, A = some ⟨b, off, none⟩ ∧ w.cell? ⟨b, off + j, none⟩ = some (.string T[j])) := Lib.hid hat
  have HS := Lib.hid hs
  have hc63 : c ≤ 9223372036854775807 := by unfold maxLen at hcm; omega
  obtain ⟨n, hn⟩ : ∃ n, n = T.length := ⟨_, rfl⟩
  rw [← hn] at HC hnc hlen ⊢
  have HN := Lib.hid hn
  clear hn hat hs hcm
  go_enter Tryz.func200, Tryz.ntmps200
  go_wp2_with fail
  refine HC.out.mono ?_
  rintro e w1 ⟨s1, rfl, ho, g1⟩
  obtain ⟨A1, c1, hs1, -, -⟩ := own_form ho
  subst hs1
  have HO := Lib.hid ho
  have HG := Lib.hid g1
  rw [← HN.out]
  clear ho g1
  go_wp2_with fail
  go_loopw [10] (fun i wr => ∃ j : Nat, j ≤ n ∧ i = .int .i64 j ∧ Hid (SO wr w.heap.size (.slice A1 T.length c1) T ∧ Gr w wr)) (fun i _ => n - (intOf i).toNat)
  case atStart => exact ⟨0, Nat.zero_le _, rfl, Lib.hid ⟨HO.out, HG.out⟩⟩
  case round =>
    obtain ⟨j, hj, rfl, hst⟩ := hrel
    rename World => wr
    by_cases hjn : j < n
    · have hj0 : (0 : Int) ≤ (j : Int) := Int.natCast_nonneg _
      have hjn1 : (j : Int) < (n : Int) := by omega
      have hjl : j < T.length := by rw [← HN.out]; exact hjn
      obtain ⟨b, off, hA, q0⟩ := HAT.out j hjl
      subst hA
      have q1 := hst.out.2.cell q0
      obtain ⟨s, hse⟩ : ∃ s, s = T[j] := ⟨_, rfl⟩
      rw [← hse] at q0 q1
      have HSE := Lib.hid hse
      have HCL := Lib.hid (fun w1 => clone_any s (by rw [hse]; exact HS.out _ (List.getElem_mem hjl)) w1)
      have HST := Lib.hid hst.out
      obtain ⟨g, cc, hvv⟩ := HST.out.1.addrV hjl
      injection hvv with h1 h2 h3
      subst h1 h3
      clear h2 hse q0 hst
      go_wp2_with fail
      refine (HCL.out _).mono ?_
      rintro e w3 ⟨rfl, g3⟩
      have ho3 := own_gr HST.out.1 g3
      have c0 := SO.atV (show SO w3 w.heap.size (.slice (some ⟨g, 0, none⟩) T.length c1) T from ho3) hjl
      have f0 := SO.freeV (show SO w3 w.heap.size (.slice (some ⟨g, 0, none⟩) T.length c1) T from ho3) j
      have HS4 : Hid (SO (w3.setCell ⟨g, j, none⟩ (.string s)) w.heap.size (.slice (some ⟨g, 0, none⟩) T.length c1) T ∧ Gr w (w3.setCell ⟨g, j, none⟩ (.string s))) := Lib.hid ⟨by rw [HSE.out]; exact SO.sameV (show SO w3 w.heap.size (.slice (some ⟨g, 0, none⟩) T.length c1) T from ho3) hjl, (HST.out.2.trans g3).setCell (SO.lenV (show SO w3 w.heap.size (.slice (some ⟨g, 0, none⟩) T.length c1) T from ho3)).2.2.2.1 _⟩
      clear ho3 g3
      go_wp2_with fail
      go_roundw
      case measure => simp [intOf]; omega
      case rel => exact ⟨j + 1, by omega, by go_num, HS4⟩
    · obtain rfl : j = n := by omega
      have HE := Lib.hid hst.out
      clear hst
      go_wp2_with fail
      go_ret
      exact ⟨_, rfl, by rw [HN.out]; exact HE.out.1, HE.out.2⟩
end Go.Proofs.YtnjmgknicffcbaaGreatDoor
namespace Go.Proofs.YtnjmgknicffcbaaGreatDoor
open Go.RowKit Go.Joins

abbrev zeroX : Array Value := #[.int .i64 0, .int .u64 0, .int .u64 0, .int .u64 0, .int .u64 0, .int .u64 0, .int .u64 0, .int .u64 0, .int .u64 0, .int .u64 0, .int .u64 0, .slice none 0 0]
end Go.Proofs.YtnjmgknicffcbaaGreatDoor
namespace Go.Proofs.YtnjmgknicffcbaaGreatDoor
open Go.RowKit Go.Joins

/-- The list's places from o on hold cs. -/
def setFrom (xs : List Value) : Nat → List Value → List Value
  | _, [] => xs
  | o, u :: r => setFrom (xs.set o u) (o + 1) r
def putCells (w : World) (g : Nat) : Nat → List Value → World
  | _, [] => w
  | o, u :: r => putCells (w.setCell ⟨g, o, none⟩ u) g (o + 1) r
theorem setFrom_at : ∀ (cs : List Value) (xs : List Value) (o j : Nat), o + cs.length ≤ xs.length → (setFrom xs o cs)[j]? = if o ≤ j ∧ j < o + cs.length then cs[j - o]? else xs[j]?
  | [], xs, o, j, _ => by rw [if_neg (by simp only [List.length_nil]; omega)]; rfl
  | u :: r, xs, o, j, h => by
    rw [List.length_cons] at h
    show (setFrom (xs.set o u) (o + 1) r)[j]? = _
    rw [setFrom_at r (xs.set o u) (o + 1) j (by rw [List.length_set]; omega), List.length_cons]
    by_cases e : j = o
    · subst e
      rw [if_neg (by omega), if_pos (by omega), Nat.sub_self, List.getElem?_set_self (by omega)]
      rfl
    · by_cases h2 : o + 1 ≤ j ∧ j < o + 1 + r.length
      · rw [if_pos h2, if_pos (by omega), show j - o = (j - (o + 1)) + 1 by omega]
        rfl
      · rw [if_neg h2, if_neg (by omega), List.getElem?_set_ne (fun q => e q.symm)]
theorem setFrom_rows {α : Type} (f : α → List Value) (k : Nat) (hf : ∀ x, (f x).length = k) (hk : 0 < k) (L : List α) (i : Nat) (hi : i < L.length) (y : α) : setFrom (L.flatMap f) (i * k) (f y) = (L.set i y).flatMap f := by
  have hl := rows_len f k hf L
  have hik : i * k + k ≤ L.length * k := by
    have := Nat.mul_le_mul_right k hi
    rw [Nat.succ_mul] at this
    exact this
  refine List.ext_getElem? fun j => ?_
  rw [setFrom_at (f y) _ _ _ (by rw [hf, hl]; exact hik), hf]
  rcases Nat.lt_or_ge j (L.length * k) with hj | hj
  · have hq : j / k < L.length := by rw [Nat.div_lt_iff_lt_mul hk]; exact hj
    have hr := Nat.mod_lt j hk
    have hd := Nat.div_add_mod j k
    rw [Nat.mul_comm] at hd
    have e1 : ((L.set i y).flatMap f)[j]? = (f ((L.set i y)[j / k]'(by rw [List.length_set]; exact hq)))[j % k]? := by
      rw [← rows_at f k hf (L.set i y) (j / k) (j % k) (by rw [List.length_set]; exact hq) hr, hd]
    have e2 : (L.flatMap f)[j]? = (f L[j / k])[j % k]? := by rw [← rows_at f k hf L (j / k) (j % k) hq hr, hd]
    rw [e1, e2]
    by_cases e : j / k = i
    · have hji : j = i * k + j % k := by rw [← e]; exact hd.symm
      rw [if_pos (by omega)]
      have : (L.set i y)[j / k]'(by rw [List.length_set]; exact hq) = y := by
        subst e
        exact List.getElem_set_self _
      rw [this]
      congr 1
      omega
    · have hne : ¬ (i * k ≤ j ∧ j < i * k + k) := fun h => e (by
        have h1 : j < (i + 1) * k := by rw [Nat.succ_mul]; omega
        have h2 := (Nat.div_lt_iff_lt_mul hk).2 h1
        have h3 := (Nat.le_div_iff_mul_le hk).2 h.1
        omega)
      rw [if_neg hne]
      have : (L.set i y)[j / k]'(by rw [List.length_set]; exact hq) = L[j / k] := List.getElem_set_ne (fun q => e q.symm) _
      rw [this]
  · rw [if_neg (by omega), List.getElem?_eq_none (by rw [hl]; exact hj), List.getElem?_eq_none (by rw [rows_len f k hf, List.length_set]; exact hj)]
theorem own_putCells {B : Nat} {t : TypeId} {size g n c : Nat} : ∀ (cs : List Value) (o : Nat) (w : World) (xs : List Value), w.ownsRow B t size (.slice (some ⟨g, 0, none⟩) n c) n xs →
    (putCells w g o cs).ownsRow B t size (.slice (some ⟨g, 0, none⟩) n c) n (setFrom xs o cs) ∧ Kp (some g) w (putCells w g o cs)
  | [], o, w, xs, h => ⟨h, Kp.refl _ _⟩
  | u :: r, o, w, xs, h => by
    obtain ⟨h1, h2⟩ := h.stored o u
    obtain ⟨h3, h4⟩ := own_putCells r (o + 1) _ _ h1
    exact ⟨h3, Kp.trans h2 h4⟩
/-- A transaction and where its operations lie. -/
abbrev TR := TX × S3
def trcells (r : TR) : List Value := (tcs r.1 r.2.v).toList
theorem trcells_len (r : TR) : (trcells r).length = 12 := rfl
def trs (R : List TR) : List Value := R.flatMap trcells
def texts (R : List TR) : List TX := R.map (·.1)
/-- Each transaction's operations lie where they should. -/
def TOs (w : World) (R : List TR) : Prop := ∀ r ∈ R, TOV w r.2.v r.1.ops
theorem TOs.gr {w w' : World} {R : List TR} (h : TOs w R) (g : Gr w w') : TOs w' R := fun r hr => (h r hr).gr g
theorem xfix_at {w : World} {b off j : Nat} {R : List TR} (hj : j < R.length) (h : ∀ i u, (trs R)[i]? = some u → w.cell? ⟨b, off + i, none⟩ = some u) : XFix w b (off + j * 12) R[j].1 R[j].2.v := by
  have at_ : ∀ r u, r < 12 → (trcells R[j])[r]? = some u → w.cell? ⟨b, off + j * 12 + r, none⟩ = some u := fun r u hr hu => by
    rw [Nat.add_assoc]
    exact h _ u (by rw [show trs R = R.flatMap trcells from rfl, rows_at trcells 12 trcells_len R j r hj hr]; exact hu)
  exact ⟨at_ 0 _ (by decide) rfl, at_ 1 _ (by decide) rfl, at_ 2 _ (by decide) rfl, at_ 3 _ (by decide) rfl, at_ 4 _ (by decide) rfl, at_ 5 _ (by decide) rfl, at_ 6 _ (by decide) rfl, at_ 7 _ (by decide) rfl, at_ 8 _ (by decide) rfl, at_ 9 _ (by decide) rfl, at_ 10 _ (by decide) rfl, at_ 11 _ (by decide) rfl⟩
theorem xv_of_sl {w : World} {v : Value} {R : List TR} (h : SL w 12 v R.length (trs R)) (ho : TOs w R) : XV w v (texts R) := by
  obtain ⟨A, c, hv, h1, h2, h3, h4⟩ := h
  refine ⟨A, c, by unfold texts; rw [List.length_map]; exact hv, by unfold texts; rw [List.length_map]; exact h1, h2, fun j hj => ?_⟩
  unfold texts at hj
  rw [List.length_map] at hj
  obtain ⟨b, off, ha, _⟩ := h4 (j * 12) _ (by rw [show trs R = R.flatMap trcells from rfl, show j * 12 = j * 12 + 0 by omega, rows_at trcells 12 trcells_len R j 0 hj (by decide)]; rfl)
  refine ⟨b, off, ha, ?_⟩
  have hx := xfix_at (w := w) (b := b) (off := off) hj fun i u hu => by
    obtain ⟨b', off', ha', hc⟩ := h4 i u hu
    rw [ha] at ha'
    injection ha' with ha'
    injection ha' with e1 e2
    subst e1 e2
    exact hc
  unfold texts
  rw [List.getElem_map]
  exact ⟨R[j].2.v, ho _ (List.getElem_mem hj), hx⟩
/-- The call owns the slice v from block B on: it reads as these transactions. -/
def XO (w : World) (B : Nat) (v : Value) (R : List TR) : Prop := w.ownsRow B 47 12 v R.length (trs R)
theorem XO.gr {w w' : World} {B : Nat} {v : Value} {R : List TR} (h : XO w B v R) (g : Gr w w') : XO w' B v R := own_gr h g
theorem XO.le {w : World} {B B' : Nat} {v : Value} {R : List TR} (h : XO w B v R) (hb : B' ≤ B) : XO w B' v R := own_le h hb
theorem XO.xv {w : World} {B : Nat} {v : Value} {R : List TR} (h : XO w B v R) (ho : TOs w R) : XV w v (texts R) := xv_of_sl (own_sl h) ho
end Go.Proofs.YtnjmgknicffcbaaGreatDoor
