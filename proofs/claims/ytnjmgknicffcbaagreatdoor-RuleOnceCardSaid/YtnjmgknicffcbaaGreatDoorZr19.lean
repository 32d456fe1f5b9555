/- A row of strings of the call's own: append in a region that draws its order; a pair of strings written out. Walks: slices.Clone of strings, value's copies. Walks: value's rising. -/
import Derived.Test.YtnjmgknicffcbaaGreatDoorZr17
import Derived.Test.YtnjmgknicffcbaaGreatDoorZr12
import Derived.Test.YtnjmgknicffcbaaGreatDoorZr07
import Derived.Test.YtnjmgknicffcbaaGreatDoorZr18
namespace Go.Proofs.YtnjmgknicffcbaaGreatDoor
open Go.RowKit

section
variable {ops : Array Oper} {o : Oper} {a : Act} {W w0 : World} {K : Act → World → Prop} {Q : Exit → Act → World → Prop} {E : Prop}
theorem wpList_push_n {rest : List Oper} {Q : Exit → Act → World → Prop} (hgd : o.guard = none) (s x : Operand)
    (ho : o.op = .call { callee := .builtin .append, args := #[s, x], argTypes := #[93, 93] })
    (v vx : Value) (L M : List ByteArray) (n m : Nat) (hn : n = L.length) (hm : m = M.length) (hs : a.eval s = v) (hown : SO W w0.heap.size v L) (hx : a.eval x = vx) (hxv : SV W vx M) (hlen : (n + m) * 16 ≤ 140737488355328) (hg : Gr w0 W)
    (h : ∀ A' c' w', SO w' w0.heap.size (.slice A' (n + m) c') (L ++ M) → Gr w0 w' → wpList Tryz.prog ops Q rest (a.put o.dst (.slice A' (n + m) c')) w') :
    wpList Tryz.prog ops Q (o :: rest) a W := by
  subst hn hm
  exact wpList_push_strs hgd s x ho v vx L M hs hown hx hxv hlen hg (fun A' c' w' h1 h2 _ => h A' c' w' h1 h2)
end
end Go.Proofs.YtnjmgknicffcbaaGreatDoor
namespace Go.Proofs.YtnjmgknicffcbaaGreatDoor
open Go.RowKit Go.Joins
set_option linter.unusedSimpArgs false
set_option linter.unusedVariables false

def RetStrsV (T : List ByteArray) (w : World) (e : Ending) (w' : World) : Prop := ∃ v, e = .returned v ∧ SO w' w.heap.size v T ∧ Gr w w'
set_option maxRecDepth 100000 in
theorem sclonesV_any (v : Value) (T : List ByteArray) (w : World) (hv : SV w v T) (hlen : T.length * 16 ≤ 140737488355328) :
    Calls Tryz.prog 219 #[v] w fun e w' => RetStrsV T w e w' := by
  obtain ⟨A, c, hva, l1, ⟨_, l2⟩, l3⟩ := id hv
  have HV := Lib.hid hv
  subst hva
  clear hv
  cases A with
  | none =>
    have hn0 : T.length = 0 := by
      rcases Nat.eq_zero_or_pos T.length with h | h
      · exact h
      · obtain ⟨b, off, hh, _⟩ := l3 0 h
        cases hh
    have hL : T = [] := List.length_eq_zero_iff.1 hn0
    have hc0 := l2 rfl
    subst hL hc0
    clear l1 l2 l3 hn0
    have he : ∀ w : World, (binOp .eql 93 (.slice none 0 0) (.slice none 0 0)).run Tryz.prog w = .ok (.bool true) w := fun w => Lib.run_eql_slice_nil w 93 9 none 0 0 0 0 Tryz.underlying93
    go_enter Tryz.func219, Tryz.ntmps219
    go_wp2
    go_ret
    exact ⟨_, rfl, SO.nil _ _, Gr.refl _⟩
  | some ad =>
    obtain ⟨n, hn⟩ : ∃ n, n = T.length := ⟨_, rfl⟩
    have HN := Lib.hid hn
    rw [← hn] at HV ⊢
    have hz : (0 + n) * 16 ≤ 140737488355328 := by omega
    clear l1 l2 l3 hn hlen
    have he : ∀ w : World, (binOp .eql 93 (.slice (some ad) n c) (.slice none 0 0)).run Tryz.prog w = .ok (.bool false) w := fun w => Lib.run_eql_slice_nil w 93 9 (some ad) n c 0 0 Tryz.underlying93
    go_enter Tryz.func219, Tryz.ntmps219
    go_wp2_with (at_builtin; refine wpList_push_n (w0 := w) rfl (.tmp 5) (.tmp 6) rfl (.slice (some ⟨w.heap.size, 0, none⟩) 0 0) (.slice (some ad) n c) [] T 0 n rfl HN.out rfl (own_none w 9 1) rfl (HV.out.gr (gr_box _ _)) hz (gr_box _ _) ?_)
    intro A' c' w1 hown g1
    have HO := Lib.hid hown
    clear hown
    go_wp2
    go_ret
    exact ⟨_, rfl, HO.out, g1⟩
section
variable {w : World} {B g n c : Nat} {L : List ByteArray}
theorem SO.lenV (h : SO w B (.slice (some ⟨g, 0, none⟩) n c) L) : n = L.length ∧ L.length ≤ c ∧ c ≤ 9223372036854775807 ∧ B ≤ g ∧ g < w.heap.size := by
  rcases h.2 with ⟨hh, _⟩ | ⟨g', cap', cur, hh, hb, hg, hn, hm, _⟩
  · cases hh
  · injection hh with h1 h2 h3
    injection h1 with h1
    injection h1 with h1
    subst h1 h2 h3
    exact ⟨rfl, hn, hm, hb, (Array.getElem?_eq_some_iff.1 hg).1⟩
theorem SO.freeV (h : SO w B (.slice (some ⟨g, 0, none⟩) n c) L) (j : Nat) : w.frozen? ⟨g, j, none⟩ = false := by
  obtain ⟨rfl, _⟩ := h.lenV
  exact h.frozenAt j
theorem SO.addrV {v : Value} (h : SO w B v L) {i : Nat} (hi : i < L.length) : ∃ g c, v = .slice (some ⟨g, 0, none⟩) L.length c := by
  obtain ⟨g, c, hv, _⟩ := World.ownsRow.form h (by omega)
  exact ⟨g, c, hv⟩
theorem SO.atV (h : SO w B (.slice (some ⟨g, 0, none⟩) n c) L) {i : Nat} (hi : i < L.length) : w.cell? ⟨g, i, none⟩ = some (.string L[i]) := by
  obtain ⟨A, c', hv, _, _, hc⟩ := h.sv
  obtain ⟨b, off, ha, q⟩ := hc i hi
  injection hv with e1
  rw [← e1] at ha
  injection ha with ha
  injection ha with a1 a2
  subst a1 a2
  rw [Nat.zero_add] at q
  exact q
theorem SO.sameV (h : SO w B (.slice (some ⟨g, 0, none⟩) n c) L) {i : Nat} (hi : i < L.length) : SO (w.setCell ⟨g, i, none⟩ (.string L[i])) B (.slice (some ⟨g, 0, none⟩) n c) L := by
  obtain ⟨rfl, _⟩ := h.lenV
  obtain ⟨h1, _⟩ := h.stored i (.string L[i])
  have e : (L.map Value.string).set i (.string L[i]) = L.map Value.string := by
    have : (Value.string L[i]) = (L.map Value.string)[i]'(by simpa using hi) := by simp
    rw [this]
    exact List.set_getElem_self _
  rw [e] at h1
  exact h1
end

set_option maxRecDepth 100000 in
set_option maxHeartbeats 2000000 in
theorem copiesV_any (v : Value) (T : List ByteArray) (w : World) (hv : SV w v T) (hlen : T.length ≤ 1000000) (hs : ∀ s ∈ T, s.size ≤ 281474976710656) :
    Calls Tryz.prog 200 #[v] w fun e w' => RetStrsV T w e w' := by
  have HC := Lib.hid (sclonesV_any v T w hv (by omega))
  obtain ⟨A, c, hvf, hnc, ⟨hcm, -⟩, hat⟩ := hv
  subst hvf
  have HAT : Hid (∀ j (hj : j < T.length), ∃ b off, A = some ⟨b, off, none⟩ ∧ w.cell? ⟨b, off + j, none⟩ = some (.string T[j])) := Lib.hid hat
  have HS := Lib.hid hs
  have hc63 : c ≤ 9223372036854775807 := by unfold maxLen at hcm; omega
  obtain ⟨n, hn⟩ : ∃ n, n = T.length := ⟨_, rfl⟩
  rw [← hn] at HC hnc hlen ⊢
  have HN := Lib.hid hn
  clear hn hat hs hcm
  go_enter Tryz.func200, Tryz.ntmps200
  go_wp2_with fail
  refine HC.out.mono ?_
  rintro e w1 ⟨s1, rfl, ho, g1⟩
  obtain ⟨A1, c1, hs1, -, -⟩ := own_form ho
  subst hs1
  have HO := Lib.hid ho
  have HG := Lib.hid g1
  rw [← HN.out]
  clear ho g1
  go_wp2_with fail
  go_loopw [10] (fun i wr => ∃ j : Nat, j ≤ n ∧ i = .int .i64 j ∧ Hid (SO wr w.heap.size (.slice A1 T.length c1) T ∧ Gr w wr)) (fun i _ => n - (intOf i).toNat)
  case atStart => exact ⟨0, Nat.zero_le _, rfl, Lib.hid ⟨HO.out, HG.out⟩⟩
  case round =>
    obtain ⟨j, hj, rfl, hst⟩ := hrel
    rename World => wr
    by_cases hjn : j < n
    · have hj0 : (0 : Int) ≤ (j : Int) := Int.natCast_nonneg _
      have hjn1 : (j : Int) < (n : Int) := by omega
      have hjl : j < T.length := by rw [← HN.out]; exact hjn
      obtain ⟨b, off, hA, q0⟩ := HAT.out j hjl
      subst hA
      have q1 := hst.out.2.cell q0
      obtain ⟨s, hse⟩ : ∃ s, s = T[j] := ⟨_, rfl⟩
      rw [← hse] at q0 q1
      have HSE := Lib.hid hse
      have HCL := Lib.hid (fun w1 => clone_any s (by rw [hse]; exact HS.out _ (List.getElem_mem hjl)) w1)
      have HST := Lib.hid hst.out
      obtain ⟨g, cc, hvv⟩ := HST.out.1.addrV hjl
      injection hvv with h1 h2 h3
      subst h1 h3
      clear h2 hse q0 hst
      go_wp2_with fail
      refine (HCL.out _).mono ?_
      rintro e w3 ⟨rfl, g3⟩
      have ho3 := own_gr HST.out.1 g3
      have c0 := SO.atV (show SO w3 w.heap.size (.slice (some ⟨g, 0, none⟩) T.length c1) T from ho3) hjl
      have f0 := SO.freeV (show SO w3 w.heap.size (.slice (some ⟨g, 0, none⟩) T.length c1) T from ho3) j
      have HS4 : Hid (SO (w3.setCell ⟨g, j, none⟩ (.string s)) w.heap.size (.slice (some ⟨g, 0, none⟩) T.length c1) T ∧ Gr w (w3.setCell ⟨g, j, none⟩ (.string s))) := Lib.hid ⟨by rw [HSE.out]; exact SO.sameV (show SO w3 w.heap.size (.slice (some ⟨g, 0, none⟩) T.length c1) T from ho3) hjl, (HST.out.2.trans g3).setCell (SO.lenV (show SO w3 w.heap.size (.slice (some ⟨g, 0, none⟩) T.length c1) T from ho3)).2.2.2.1 _⟩
      clear ho3 g3
      go_wp2_with fail
      go_roundw
      case measure => simp [intOf]; omega
      case rel => exact ⟨j + 1, by omega, by go_num, HS4⟩
    · obtain rfl : j = n := by omega
      have HE := Lib.hid hst.out
      clear hst
      go_wp2_with fail
      go_ret
      exact ⟨_, rfl, by rw [HN.out]; exact HE.out.1, HE.out.2⟩
end Go.Proofs.YtnjmgknicffcbaaGreatDoor
namespace Go.Proofs.YtnjmgknicffcbaaGreatDoor
open Go.RowKit Go.Joins
set_option linter.unusedSimpArgs false
set_option linter.unusedVariables false

theorem mades : ∀ n, (madeCells (Value.string ⟨#[]⟩).cells n).toList = (List.replicate n (⟨#[]⟩ : ByteArray)).map Value.string := by
  intro n
  apply List.ext_getElem?
  intro j
  by_cases hj : j < n
  · simp [madeCells, hj, Value.cells, Nat.mod_one]
  · simp [madeCells, hj]
theorem make_strs (n : Nat) (hn : 16 * n ≤ 281474976710656) (W : World) : ∃ W', (Instr.makeSlice 93 (.int .i64 (n : Int)) (.int .i64 (n : Int))).run Tryz.prog W = .ok (.slice (some ⟨W.heap.size, 0, none⟩) n n) W' ∧
    SO W' W.heap.size (.slice (some ⟨W.heap.size, 0, none⟩) n n) (List.replicate n ⟨#[]⟩) ∧ Gr W W' := by
  obtain ⟨i0, hi, hz0, hz1, hz2⟩ := info_parts infoString
  obtain ⟨w', h1, h2, h3⟩ := run_make_full (P := Tryz.prog) W W.heap.size 93 9 i0 _ 1 Tryz.underlying93 hi hz0 hz1 .i64 .i64 n (by rw [hz2]; exact hn) (by unfold maxLen; omega) (Nat.le_refl _)
  rw [Nat.mul_one, mades] at h2
  refine ⟨w', h1, ?_, ⟨h3.1, h3.2, h3.3, h3.4, fun k hk => h3.5 k hk (by intro e; cases e)⟩⟩
  unfold SO
  rw [List.length_replicate]
  exact h2
theorem SO.setV {w : World} {B g n c : Nat} {L : List ByteArray} (h : SO w B (.slice (some ⟨g, 0, none⟩) n c) L) {i : Nat} (hi : i < L.length) (s : ByteArray) : SO (w.setCell ⟨g, i, none⟩ (.string s)) B (.slice (some ⟨g, 0, none⟩) n c) (L.set i s) := by
  obtain ⟨rfl, _⟩ := h.lenV
  obtain ⟨h1, _⟩ := h.stored i (.string s)
  have e : (L.map Value.string).set i (.string s) = (L.set i s).map Value.string := by rw [List.map_set]
  rw [e] at h1
  unfold SO
  rw [List.length_set]
  exact h1
/-- A row that is being filled: the first j are there. -/
def fillE (T : List ByteArray) (j : Nat) : List ByteArray := T.take j ++ List.replicate (T.length - j) ⟨#[]⟩
theorem fillE_zero (T : List ByteArray) : fillE T 0 = List.replicate T.length ⟨#[]⟩ := by simp [fillE]
theorem fillE_all (T : List ByteArray) : fillE T T.length = T := by simp [fillE]
theorem fillE_len (T : List ByteArray) {j : Nat} (h : j ≤ T.length) : (fillE T j).length = T.length := by simp [fillE]; omega
theorem fillE_next {T : List ByteArray} {j : Nat} (h : j < T.length) : (fillE T j).set j T[j] = fillE T (j + 1) := by
  unfold fillE
  have e : T.take (j + 1) = T.take j ++ [T[j]] := by rw [List.take_add_one, List.getElem?_eq_getElem h]; rfl
  rw [List.set_append_right _ _ (by simp; omega), List.length_take, Nat.min_eq_left (by omega), Nat.sub_self, show T.length - j = (T.length - (j + 1)) + 1 by omega, List.replicate_succ, List.set_cons_zero, e, List.append_assoc]
  rfl
theorem Kp.gr_of {r : Option Nat} {w a b : World} (g : Gr w a) (k : Kp r a b) (hr : ∀ q, r = some q → w.heap.size ≤ q) : Gr w b := Below.trans g (k.below g.size hr)
def elemsD (D : List DD) : List ByteArray := D.map fun d => d.op.elem
theorem elemsD_len (D : List DD) : (elemsD D).length = D.length := List.length_map _
theorem run_field_e (k : Int) (a b : ByteArray) (n : Int) (W : World) : (Instr.field 52 (.agg #[.int .i64 k, .string a, .string b, .int .i64 n]) 2).run Tryz.prog W = .ok (.string b) W := by kernel_rfl

set_option maxRecDepth 100000 in
set_option maxHeartbeats 4000000 in
theorem risingV_any (v : Value) (D : List DD) (w : World) (h : DV w v D) (hx : DXs w D) (hlen : D.length ≤ 65536) (hs : ∀ d ∈ D, d.op.elem.size ≤ 281474976710656) :
    Calls Tryz.prog 182 #[v] w fun e w' => RetStrsV (riseT (elemsD D)) w e w' := by
  have HX := Lib.hid hx
  obtain ⟨A, c, hvf, hnc, ⟨hcm, -⟩, hat⟩ := h
  subst hvf
  have HAT : Hid (∀ j (hj : j < D.length), ∃ b off, A = some ⟨b, off, none⟩ ∧ DCell w b (off + j * 2) D[j]) := Lib.hid hat
  have HL : Hid (∀ s ∈ elemsD D, s.size ≤ 281474976710656) := Lib.hid (by
    intro s hsm
    obtain ⟨d, hd, rfl⟩ := List.mem_map.1 hsm
    exact hs d hd)
  obtain ⟨n, hn⟩ : ∃ n, n = D.length := ⟨_, rfl⟩
  have HN := Lib.hid hn
  rw [← hn] at hnc hlen ⊢
  obtain ⟨W1, hmk, hso, hg1⟩ := make_strs n (by omega) w
  have HSO : Hid (SO W1 w.heap.size (.slice (some ⟨w.heap.size, 0, none⟩) n n) (fillE (elemsD D) 0)) := Lib.hid (by rw [fillE_zero, elemsD_len, ← HN.out]; exact hso)
  have HG1 := Lib.hid hg1
  clear hx hat hs hn hso hg1 hcm
  go_enter Tryz.func182, Tryz.ntmps182
  go_wp2_with fail
  clear hmk
  go_loopw [11] (fun i wr => ∃ j : Nat, j ≤ n ∧ i = .int .i64 j ∧ Hid (SO wr w.heap.size (.slice (some ⟨w.heap.size, 0, none⟩) n n) (fillE (elemsD D) j) ∧ Gr w wr)) (fun i _ => n - (intOf i).toNat)
  case atStart => exact ⟨0, Nat.zero_le _, rfl, Lib.hid ⟨HSO.out, HG1.out⟩⟩
  case round =>
    obtain ⟨j, hj, rfl, hst⟩ := hrel
    rename World => wr
    by_cases hjn : j < n
    · have hj0 : (0 : Int) ≤ (j : Int) := Int.natCast_nonneg _
      have hjn1 : (j : Int) < (n : Int) := by omega
      have hjl : j < D.length := by rw [← HN.out]; exact hjn
      obtain ⟨b, off, hA, hc0⟩ := HAT.out j hjl
      subst hA
      obtain ⟨d, hd⟩ : ∃ d, d = D[j] := ⟨_, rfl⟩
      rw [← hd] at hc0
      obtain ⟨c0, c1⟩ := hc0.gr hst.out.2
      have hdx : DX w d := HX.out d (by rw [hd]; exact List.getElem_mem hjl)
      obtain ⟨W5, hW5, hg5, y0, y1⟩ := dbox wr d
      have HOP := Lib.hid (fun w1 (g : Gr W5 w1) => dop_any d w1 ((hdx.gr (hst.out.2.trans hg5)).gr g))
      have hel : d.op.elem = (elemsD D)[j]'(by rw [elemsD_len]; exact hjl) := by
        unfold elemsD
        rw [List.getElem_map, hd]
      obtain ⟨kd, hkd⟩ : ∃ x, x = d.op.kind := ⟨_, rfl⟩
      obtain ⟨db, hdb⟩ : ∃ x, x = d.b := ⟨_, rfl⟩
      obtain ⟨dk, hdk⟩ : ∃ x, x = d.o := ⟨_, rfl⟩
      obtain ⟨di, hdi⟩ : ∃ x, x = d.i := ⟨_, rfl⟩
      obtain ⟨ok, hok⟩ : ∃ x, x = d.op.key := ⟨_, rfl⟩
      obtain ⟨oe, hoe⟩ : ∃ x, x = d.op.elem := ⟨_, rfl⟩
      obtain ⟨on, hon⟩ : ∃ x, x = d.op.n := ⟨_, rfl⟩
      rw [← hdb, ← hdk, ← hdi] at HOP
      unfold opv at HOP
      rw [← hkd, ← hok, ← hoe, ← hon] at HOP
      rw [← hdb, ← hdk] at c0 y0
      rw [← hdi] at c1 y1
      rw [← hdb, ← hdk, ← hdi] at hW5
      have HST5 : Hid (SO W5 w.heap.size (.slice (some ⟨w.heap.size, 0, none⟩) n n) (fillE (elemsD D) j) ∧ Gr w W5) := Lib.hid ⟨hst.out.1.gr hg5, hst.out.2.trans hg5⟩
      have HNX : Hid ((fillE (elemsD D) j).set j oe = fillE (elemsD D) (j + 1)) := Lib.hid (by rw [hoe, hel]; exact fillE_next (by rw [elemsD_len]; exact hjl))
      have HLE : Hid (j < (fillE (elemsD D) j).length) := Lib.hid (by rw [fillE_len _ (by rw [elemsD_len]; omega), elemsD_len]; exact hjl)
      clear hc0 hdx hg5 hst hd hkd hdb hdk hdi hok hoe hon hel
      go_upto_region 5 with (fail)
      rw [← hW5]
      clear hW5 c0 c1
      go_wp2_with fail
      refine (HOP.out _ (Gr.refl _)).mono ?_
      rintro e w6 ⟨rfl, g6⟩
      have hfl := fun W => run_field_e kd ok oe on W
      have ho6 := HST5.out.1.gr g6
      obtain ⟨u, hu⟩ : ∃ u, u = (fillE (elemsD D) j)[j]'HLE.out := ⟨_, rfl⟩
      have q0 := ho6.atV HLE.out
      rw [← hu] at q0
      have k0 := ho6.freeV j
      have HS6 : Hid (SO (w6.setCell ⟨w.heap.size, j, none⟩ (.string oe)) w.heap.size (.slice (some ⟨w.heap.size, 0, none⟩) n n) (fillE (elemsD D) (j + 1)) ∧ Gr w (w6.setCell ⟨w.heap.size, j, none⟩ (.string oe))) := Lib.hid ⟨by rw [← HNX.out]; exact ho6.setV HLE.out oe, (HST5.out.2.trans g6).setCell (Nat.le_refl _) _⟩
      clear g6 y0 y1 ho6 hu
      go_wp2_with fail
      go_roundw
      case measure => simp [intOf]; omega
      case rel => exact ⟨j + 1, by omega, by go_num, HS6⟩
    · obtain rfl : j = n := by omega
      have ho := hst.out.1
      have e1 : fillE (elemsD D) j = elemsD D := by
        have := fillE_all (elemsD D)
        rw [elemsD_len, ← HN.out] at this
        exact this
      rw [e1] at ho
      have HSR := Lib.hid (sortS_any _ _ _ _ ho (by rw [elemsD_len, ← HN.out]; omega))
      have HG := Lib.hid hst.out.2
      clear hst ho e1
      go_wp2_with fail
      refine HSR.out.mono ?_
      rintro e w2 ⟨rfl, ho2, k2⟩
      have hg2 := Kp.gr_of HG.out k2 (fun q hq => by injection hq with hq; subst hq; exact Nat.le_refl _)
      have HCR := Lib.hid (compS_any _ _ _ _ ho2 (by rw [sortT_len, elemsD_len, ← HN.out]; omega))
      have HG2 := Lib.hid hg2
      clear k2 hg2 ho2
      go_wp2_with fail
      refine HCR.out.mono ?_
      rintro e w3 ⟨v3, rfl, ho3, hb3, k3⟩
      have HG3 := Lib.hid (Kp.gr_of HG2.out k3 (fun q hq => by injection hq with hq; subst hq; exact Nat.le_refl _))
      rw [compT_sort] at ho3
      have HCP := Lib.hid (copiesV_any v3 _ w3 ho3.sv (by have := riseT_len (elemsD D); rw [elemsD_len, ← HN.out] at this; omega) (fun s hsm => HL.out s (mem_riseT.1 hsm)))
      obtain ⟨A3, c3, hs3, -, -⟩ := own_form ho3
      subst hs3
      obtain ⟨m3, hm3⟩ : ∃ m, m = (riseT (elemsD D)).length := ⟨_, rfl⟩
      rw [← hm3] at HCP ⊢
      clear k3 ho3 hb3 hm3
      go_wp2_with fail
      refine HCP.out.mono ?_
      rintro e w4 ⟨v4, rfl, ho4, g4⟩
      have HO4 := Lib.hid ho4
      obtain ⟨A4, c4, hs4, -, -⟩ := own_form ho4
      subst hs4
      clear ho4
      obtain ⟨m4, hm4⟩ : ∃ m, m = (riseT (elemsD D)).length := ⟨_, rfl⟩
      rw [← hm4] at HO4 ⊢
      have HM4 := Lib.hid hm4
      clear hm4
      go_wp2_with fail
      go_ret
      exact ⟨_, rfl, HO4.out.le HG3.out.size, HG3.out.trans g4⟩
end Go.Proofs.YtnjmgknicffcbaaGreatDoor
