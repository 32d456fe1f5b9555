/- Walks over package rule: namesOf, kindOf, where they find. The library's Clone of a string, by the shelf's contract (proved once, over any program), at this program's numbers. Walk: strings.Clone answers the string. Walks over package rule: put, readRule, where they succeed. -/
import Derived.Test.YtnjmgknicffcbaaGreatDoorZb08
import Derived.Test.YtnjmgknicffcbaaGreatDoorChecked
import Derived.Shelf.Strconv.Clone
import Derived.WalkKit
import Derived.ProofKit
import Derived.Test.YtnjmgknicffcbaaGreatDoorZb01
import Derived.Lib.Hide
import Derived.Lib.Strings
namespace Go.Proofs.YtnjmgknicffcbaaGreatDoor
open Go.RowKit Go.Joins
set_option linter.unusedSimpArgs false
set_option linter.unusedVariables false

theorem wrap64_le {n : Int} (h0 : -9223372036854775808 ≤ n) (h1 : n ≤ 9223372036854775807) : wrap64 n = n := by unfold wrap64; omega
theorem lines_names : ∀ j, j < 10 → PV.pieces 32 (lineK.getD j ⟨#[]⟩) = names ((j : Int) + 1) := by
  intro j hj
  rw [PV.pieces_eq]
  match j, hj with
  | 0, _ => decide +kernel
  | 1, _ => decide +kernel
  | 2, _ => decide +kernel
  | 3, _ => decide +kernel
  | 4, _ => decide +kernel
  | 5, _ => decide +kernel
  | 6, _ => decide +kernel
  | 7, _ => decide +kernel
  | 8, _ => decide +kernel
  | 9, _ => decide +kernel
theorem lines_size : ∀ j, j < 10 → (lineK.getD j ⟨#[]⟩).size < 4294967281 := by
  intro j hj
  match j, hj with
  | 0, _ => decide
  | 1, _ => decide
  | 2, _ => decide
  | 3, _ => decide
  | 4, _ => decide
  | 5, _ => decide
  | 6, _ => decide
  | 7, _ => decide
  | 8, _ => decide
  | 9, _ => decide
set_option maxRecDepth 100000 in
theorem namesOf_in (j : Nat) (hj : j < 10) (w : World) (hp : Laid w) :
    Calls Tryz.prog 110 #[.int .i64 ((j : Int) + 1)] w fun e w' => e = .returned (.slice (some ⟨w.heap.size, 0, none⟩) (names ((j : Int) + 1)).length (names ((j : Int) + 1)).length) ∧ w' = w.alloc (.cells ((names ((j : Int) + 1)).map Value.string).toArray 9) := by
  have hs := lines_size j hj
  have hn := lines_names j hj
  have hc := hp.lines j hj
  obtain ⟨s, hse⟩ : ∃ s, s = lineK.getD j ⟨#[]⟩ := ⟨_, rfl⟩
  obtain ⟨N, hN⟩ : ∃ N, N = names ((j : Int) + 1) := ⟨_, rfl⟩
  rw [← hse] at hs hn hc
  rw [← hN] at hn ⊢
  have HS := Lib.hid (fun w => split1_any 32 s hs w)
  rw [hn] at HS
  obtain ⟨n, hnl⟩ : ∃ n, n = N.length := ⟨_, rfl⟩
  obtain ⟨cs, hcs⟩ : ∃ cs, cs = (N.map Value.string).toArray := ⟨_, rfl⟩
  rw [← hnl, ← hcs] at HS ⊢
  have t0 : ¬ (j : Int) + 1 < 1 := by omega
  have t1 : ¬ (10 : Int) < (j : Int) + 1 := by omega
  have t2 : wrap64 ((j : Int) + 1 - 1) = (j : Int) := by rw [wrap64_le (by omega) (by omega)]; omega
  have t3 : (0 : Int) ≤ (j : Int) := by omega
  have t4 : (j : Int) < 10 := by omega
  clear hn hse hN hnl hcs hs hp hj
  go_enter Tryz.func110, Tryz.ntmps110
  go_wp2_with fail
  refine (HS.out _).mono ?_
  rintro e w1 ⟨rfl, rfl⟩
  go_wp2_with fail
  go_ret
  exact ⟨rfl, rfl⟩
theorem namesOf_out (k : Int) (hk : ¬ (1 ≤ k ∧ k ≤ 10)) (w : World) :
    Calls Tryz.prog 110 #[.int .i64 k] w fun e w' => e = .returned (.slice none 0 0) ∧ w' = w := by
  by_cases h1 : k < 1
  · go_enter Tryz.func110, Tryz.ntmps110
    go_wp2_with fail
    go_ret
    exact ⟨rfl, rfl⟩
  · have h2 : 10 < k := by omega
    clear hk
    go_enter Tryz.func110, Tryz.ntmps110
    go_wp2_with fail
    go_ret
    exact ⟨rfl, rfl⟩
/-- Strings lie in this block. -/
def SBox (w : World) (b : Nat) (L : List ByteArray) : Prop := w.heap[b]? = some (.cells (L.map Value.string).toArray 9 (0, 0))
theorem SBox.cell {w : World} {b : Nat} {L : List ByteArray} (h : SBox w b L) {j : Nat} (hj : j < L.length) : w.cell? ⟨b, j, none⟩ = some (.string L[j]) :=
  obj_cell h (by simp [hj])
theorem SBox.gr {w w' : World} {b : Nat} {L : List ByteArray} (h : SBox w b L) (g : Gr w w') : SBox w' b L := gr_obj g h
theorem SBox.lt {w : World} {b : Nat} {L : List ByteArray} (h : SBox w b L) : b < w.heap.size := (Array.getElem?_eq_some_iff.1 h).1
theorem SBox.made (w : World) (L : List ByteArray) : SBox (w.alloc (.cells (L.map Value.string).toArray 9)) w.heap.size L := heap_allocR _ _ _
theorem SBox.sv {w : World} {b : Nat} {L : List ByteArray} (h : SBox w b L) (hl : L.length ≤ maxLen) : SV w (.slice (some ⟨b, 0, none⟩) L.length L.length) L :=
  ⟨_, L.length, rfl, Nat.le_refl _, ⟨hl, fun e => by cases e⟩, fun j hj => ⟨b, 0, rfl, by rw [Nat.zero_add]; exact h.cell hj⟩⟩
/-- The names of any kind: nil of none. -/
theorem namesOf_any (k : Int) (w : World) (hp : Laid w) :
    Calls Tryz.prog 110 #[.int .i64 k] w fun e w' => ∃ v, e = .returned v ∧ SV w' v (names k) ∧ Gr w w' := by
  by_cases h : 1 ≤ k ∧ k ≤ 10
  · obtain ⟨j, rfl⟩ : ∃ j : Nat, k = (j : Int) + 1 := ⟨(k - 1).toNat, by omega⟩
    refine (namesOf_in j (by omega) w hp).mono ?_
    rintro e w' ⟨he, rfl⟩
    refine ⟨_, he, (SBox.made w _).sv ?_, (Gr.refl _).alloc _⟩
    have : ∀ k : Int, (names k).length ≤ 4 := fun k => by
      by_cases h : 1 ≤ k ∧ k ≤ 10
      · rcases k_cases h with rfl | rfl | rfl | rfl | rfl | rfl | rfl | rfl | rfl | rfl <;> decide
      · rw [names_out h]; decide
    have := this ((j : Int) + 1)
    unfold maxLen; omega
  · refine (namesOf_out k h w).mono ?_
    rintro e w' ⟨he, rfl⟩
    exact ⟨_, he, by rw [names_out h]; exact SV.nil _, Gr.refl _⟩
theorem heads_inj : ∀ i : Nat, i < 10 → ∀ j : Nat, j < 10 → (names ((i : Int) + 1)).headD ⟨#[]⟩ = (names ((j : Int) + 1)).headD ⟨#[]⟩ → i = j := by decide +kernel
theorem names_pos (j : Nat) (hj : j < 10) : 0 < (names ((j : Int) + 1)).length := List.length_pos_iff.2 (names_in (by omega))
theorem head_getR {L : List ByteArray} (h : 0 < L.length) : L[0] = L.headD ⟨#[]⟩ := by
  cases L with
  | nil => exact absurd h (Nat.not_lt_zero _)
  | cons a r => rfl
set_option maxRecDepth 100000 in
set_option maxHeartbeats 1000000 in
theorem kindOf_in (q : Nat) (hq : q < 10) (w : World) (hp : Laid w) :
    Calls Tryz.prog 112 #[.string ((names ((q : Int) + 1)).headD ⟨#[]⟩)] w fun e w' => e = .returned (.int .i64 ((q : Int) + 1)) ∧ Gr w w' := by
  obtain ⟨x, hx⟩ : ∃ x, x = (names ((q : Int) + 1)).headD ⟨#[]⟩ := ⟨_, rfl⟩
  rw [← hx]
  have HX := Lib.hid hx
  have HP := Lib.hid hp
  clear hx hp
  go_enter Tryz.func112, Tryz.ntmps112
  go_wp2_with fail
  go_loopw [3] (fun i wr => ∃ j : Nat, j ≤ q ∧ i = .int .i64 ((j : Int) + 1) ∧ Gr w wr) (fun i _ => 12 - (intOf i).toNat)
  case atStart => exact ⟨0, Nat.zero_le _, rfl, Gr.refl _⟩
  case round =>
    obtain ⟨j, hj, rfl, hgr⟩ := hrel
    have HG := Lib.hid hgr
    have hj10 : j < 10 := by omega
    have HN := Lib.hid (namesOf_in j hj10 wr (HP.out.gr hgr))
    obtain ⟨N, hN⟩ : ∃ N, N = names ((j : Int) + 1) := ⟨_, rfl⟩
    rw [← hN] at HN
    have hpos : 0 < N.length := by rw [hN]; exact names_pos j hj10
    obtain ⟨y, hy⟩ : ∃ y, y = N.headD ⟨#[]⟩ := ⟨_, rfl⟩
    have hc : (wr.alloc (.cells (N.map Value.string).toArray 9)).cell? ⟨wr.heap.size, 0, none⟩ = some (.string y) := by
      rw [hy, ← head_getR hpos]
      exact (SBox.made wr N).cell hpos
    have HG2 := Lib.hid (hgr.alloc (.cells (N.map Value.string).toArray 9))
    obtain ⟨w2, hw2⟩ : ∃ w2, w2 = wr.alloc (.cells (N.map Value.string).toArray 9) := ⟨_, rfl⟩
    rw [← hw2] at HN hc HG2
    obtain ⟨n, hn⟩ : ∃ n, n = N.length := ⟨_, rfl⟩
    rw [← hn] at HN hpos
    have t0 : (j : Int) + 1 ≤ 10 := by omega
    have t1 : (0 : Int) < (n : Int) := by omega
    obtain ⟨z, hz⟩ : ∃ z, z = eqS y x := ⟨_, rfl⟩
    have hze : (y.toList == x.toList) = z := hz.symm
    have HZ : Hid (z = decide (j = q)) := Lib.hid (by
      rw [hz, eqS_dec, hy, HX.out, hN]
      by_cases e : j = q
      · subst e; simp
      · rw [decide_eq_false (p := j = q) e]
        exact decide_eq_false fun c => e (heads_inj j hj10 q hq c))
    clear hgr hy hz hw2 hn hN
    go_wp2_with fail
    refine HN.out.mono ?_
    rintro e w1 ⟨rfl, rfl⟩
    rcases z with _ | _
    · have HJ : Hid (j ≠ q) := Lib.hid (fun e => by have := HZ.out; rw [decide_eq_true e] at this; cases this)
      have t2 : wrap64 ((j : Int) + 1 + 1) = (j : Int) + 1 + 1 := wrap64_le (by omega) (by omega)
      go_wp2_with fail
      go_roundw
      case rel =>
        have := HJ.out
        exact ⟨j + 1, by omega, by congr 1, HG2.out⟩
      case measure => simp [intOf]; omega
    · have HJ : Hid (j = q) := Lib.hid (of_decide_eq_true HZ.out.symm)
      go_wp2_with fail
      go_ret
      exact ⟨by have := HJ.out; subst this; rfl, HG2.out⟩
end Go.Proofs.YtnjmgknicffcbaaGreatDoor
namespace Go.Proofs.YtnjmgknicffcbaaGreatDoor
open Go.Shelf Go.RowKit
def lays316_ren : Go.Shelf.Ren := ⟨fun | 316 => 155 | n => n, fun | 0 => 0 | 3 => 3 | 4 => 4 | 5 => 5 | 9 => 9 | 37 => 81 | 127 => 152 | n => n, fun | n => n⟩
theorem lays316 : Go.Proofs.LaysM.n316 Tryz.prog lays316_ren := {
  mixed := by kernel_rfl
  f316 := Tryz.func155.trans (congrArg some (by kernel_rfl))
  t0 := Tryz.underlying0
  a0 := Tryz.isAgg0
  z0 := Tryz.sizeOf0
  v0 := Tryz.zeroValue0
  t3 := Tryz.underlying3
  a3 := Tryz.isAgg3
  z3 := Tryz.sizeOf3
  v3 := Tryz.zeroValue3
  t4 := Tryz.underlying4
  a4 := Tryz.isAgg4
  z4 := Tryz.sizeOf4
  v4 := Tryz.zeroValue4
  t9 := Tryz.underlying9
  a9 := Tryz.isAgg9
  z9 := Tryz.sizeOf9
  v9 := Tryz.zeroValue9
  t37 := Tryz.underlying81
  a37 := Tryz.isAgg81
  z37 := Tryz.sizeOf81
  v37 := Tryz.zeroValue81
  t127 := Tryz.underlying152
  a127 := Tryz.isAgg152
  z127 := Tryz.sizeOf152
  v127 := Tryz.zeroValue152
  t5 := Tryz.underlying5
  a5 := Tryz.isAgg5
  z5 := Tryz.sizeOf5
  v5 := Tryz.zeroValue5
  i0 := by kernel_rfl
  i3 := by kernel_rfl
  i4 := by kernel_rfl
  i5 := by kernel_rfl
  i9 := by kernel_rfl
  i37 := by kernel_rfl
  i127 := by kernel_rfl }
theorem clone_lib (s : ByteArray) (w : World) (hlim : s.size ≤ 281474976710656) :
    Calls Tryz.prog 155 #[.string s] w fun e w' => e = .returned (.string s) ∧ Below w.heap.size w w' := Any.stringslite_Clone lays316 s w hlim
end Go.Proofs.YtnjmgknicffcbaaGreatDoor
namespace Go.Proofs.YtnjmgknicffcbaaGreatDoor
open Go.RowKit

theorem clone_any (s : ByteArray) (hs : s.size ≤ 281474976710656) (w : World) :
    Calls Tryz.prog 129 #[.string s] w fun e w' => e = .returned (.string s) ∧ Gr w w' := by
  have H := Lib.hid (fun w => clone_lib s w hs)
  go_enter Tryz.func129, Tryz.ntmps129
  go_wp2_with fail
  refine (H.out _).mono ?_
  rintro e w1 ⟨rfl, g⟩
  go_wp2
  go_ret
  exact ⟨rfl, g⟩

end Go.Proofs.YtnjmgknicffcbaaGreatDoor
namespace Go.Proofs.YtnjmgknicffcbaaGreatDoor
open Go.RowKit Go.Joins
set_option linter.unusedSimpArgs false
set_option linter.unusedVariables false

/-- The field of that name becomes the word. -/
noncomputable def setF (name : ByteArray) (r : RU) (x : ByteArray) : Option RU :=
  if name = sKEY then some { r with key := x } else if name = sOTHER then some { r with other := x }
  else if name = sMIN then (PV.wholeL x.data.toList).map fun n => { r with min := n } else if name = sSTART then (PV.wholeL x.data.toList).map fun n => { r with start := n } else some r
noncomputable def foldR (r : RU) : List (ByteArray × ByteArray) → Option RU
  | [] => some r
  | (n, x) :: t => (setF n r x).bind fun r' => foldR r' t
theorem foldR_append (r : RU) : ∀ (a b : List (ByteArray × ByteArray)), foldR r (a ++ b) = (foldR r a).bind fun r' => foldR r' b
  | [], b => rfl
  | (n, x) :: a, b => by
    show (setF n r x).bind _ = ((setF n r x).bind _).bind _
    cases setF n r x with
    | none => rfl
    | some r' => exact foldR_append r' a b
/-- The first k words go in, and the next one, too. -/
theorem foldR_step {r r2 : RU} {l : List (ByteArray × ByteArray)} (h : foldR r l = some r2) {k : Nat} (hk : k < l.length) {q : RU} (hq : foldR r (l.take k) = some q) : ∃ q', setF l[k].1 q l[k].2 = some q' ∧ foldR r (l.take (k + 1)) = some q' := by
  have e : l = l.take k ++ (l[k] :: l.drop (k + 1)) := by rw [← List.drop_eq_getElem_cons hk, List.take_append_drop]
  rw [e, foldR_append, hq] at h
  have h2 : (setF l[k].1 q l[k].2).bind (fun r' => foldR r' (l.drop (k + 1))) = some r2 := h
  cases hs : setF l[k].1 q l[k].2 with
  | none => rw [hs] at h2; cases h2
  | some q' =>
    refine ⟨q', rfl, ?_⟩
    rw [List.take_add_one, List.getElem?_eq_getElem hk, foldR_append, hq]
    show (setF l[k].1 q l[k].2).bind _ = _
    rw [hs]; rfl
/-- A rule lies in this block, all of it. -/
def RBox (w : World) (b : Nat) (r : RU) : Prop := w.heap[b]? = some (.cells (ruv r) 49 (0, 0))
theorem RBox.gr {w w' : World} {b : Nat} {r : RU} (h : RBox w b r) (g : Gr w w') : RBox w' b r := gr_obj g h
theorem RBox.cell {w : World} {b : Nat} {r : RU} (h : RBox w b r) : RCell w b 0 r := ⟨obj_cell h rfl, obj_cell h rfl, obj_cell h rfl, obj_cell h rfl, obj_cell h rfl⟩
theorem RBox.lt {w : World} {b : Nat} {r : RU} (h : RBox w b r) : b < w.heap.size := (Array.getElem?_eq_some_iff.1 h).1
theorem RBox.free {w : World} {b : Nat} {r : RU} (h : RBox w b r) (i : Nat) : w.frozen? ⟨b, i, none⟩ = false := obj_free h
set_option maxRecDepth 100000 in
set_option maxHeartbeats 1000000 in
theorem put_any (B : Nat) (r r' : RU) (name x : ByteArray) (hs : x.size ≤ 281474976710656) (hset : setF name r x = some r') (w : World) (hp : Laid w) (hb : RBox w B r) :
    Calls Tryz.prog 113 #[.pointer (some ⟨B, 0, none⟩), .string name, .string x] w fun e w' => e = .returned (.bool true) ∧ RBox w' B r' ∧ Kp (some B) w w' := by
  have HB := Lib.hid hb
  have HCL := Lib.hid (fun w => clone_any x hs w)
  have HWH := Lib.hid (fun w hp => whole_any x hs w hp)
  have HP := Lib.hid hp
  clear hb hp
  by_cases n1 : name = sKEY
  · subst n1
    have HR : Hid (({ r with key := x } : RU) = r') := Lib.hid (by simpa [setF] using hset)
    clear hset
    unfold sKEY
    go_enter Tryz.func113, Tryz.ntmps113
    go_wp2_with fail
    refine (HCL.out _).mono ?_
    rintro e w1 ⟨rfl, g⟩
    have HB1 := Lib.hid (HB.out.gr g)
    have HG1 := Lib.hid g
    have c1 := HB1.out.cell.2.1
    have f1 := HB1.out.free 1
    simp only [Nat.zero_add] at c1
    clear g
    go_wp2_with fail
    go_ret
    exact ⟨rfl, by have := set_obj (i := 1) HB1.out (.string x); rw [← HR.out]; exact this, ((Kp.of_gr HG1.out).set (.inr rfl) 1 _)⟩
  by_cases n2 : name = sOTHER
  · subst n2
    have HR : Hid (({ r with other := x } : RU) = r') := Lib.hid (by simpa [setF, n1] using hset)
    clear hset n1
    unfold sOTHER
    go_enter Tryz.func113, Tryz.ntmps113
    go_wp2_with fail
    refine (HCL.out _).mono ?_
    rintro e w1 ⟨rfl, g⟩
    have HB1 := Lib.hid (HB.out.gr g)
    have HG1 := Lib.hid g
    have c1 := HB1.out.cell.2.2.1
    have f1 := HB1.out.free 2
    simp only [Nat.zero_add] at c1
    clear g
    go_wp2_with fail
    go_ret
    exact ⟨rfl, by have := set_obj (i := 2) HB1.out (.string x); rw [← HR.out]; exact this, ((Kp.of_gr HG1.out).set (.inr rfl) 2 _)⟩
  by_cases n3 : name = sMIN
  · subst n3
    cases hw : PV.wholeL x.data.toList with
    | none => rw [setF, if_neg n1, if_neg n2, if_pos rfl, hw] at hset; cases hset
    | some n =>
      have HR : Hid (({ r with min := n } : RU) = r') := Lib.hid (by rw [setF, if_neg n1, if_neg n2, if_pos rfl, hw] at hset; exact Option.some.inj hset)
      have HWH := Lib.hid (fun w hp => by have := HWH.out w hp; rw [hw] at this; exact this)
      have HWH : Hid (∀ w, Laid w → Calls Tryz.prog 149 #[.string x] w fun e w' => e = .returned (.tuple #[.int .i64 n, .bool true]) ∧ Gr w w') := HWH
      clear hset hw n1 n2
      unfold sMIN
      go_enter Tryz.func113, Tryz.ntmps113
      go_wp2_with fail
      refine (HWH.out _ HP.out).mono ?_
      rintro e w1 ⟨rfl, g⟩
      have HB1 := Lib.hid (HB.out.gr g)
      have HG1 := Lib.hid g
      have c1 := HB1.out.cell.2.2.2.1
      have f1 := HB1.out.free 3
      simp only [Nat.zero_add] at c1
      clear g
      go_wp2_with fail
      go_ret
      exact ⟨rfl, by have := set_obj (i := 3) HB1.out (.int .i64 n); rw [← HR.out]; exact this, ((Kp.of_gr HG1.out).set (.inr rfl) 3 _)⟩
  by_cases n4 : name = sSTART
  · subst n4
    cases hw : PV.wholeL x.data.toList with
    | none => rw [setF, if_neg n1, if_neg n2, if_neg n3, if_pos rfl, hw] at hset; cases hset
    | some n =>
      have HR : Hid (({ r with start := n } : RU) = r') := Lib.hid (by rw [setF, if_neg n1, if_neg n2, if_neg n3, if_pos rfl, hw] at hset; exact Option.some.inj hset)
      have HWH := Lib.hid (fun w hp => by have := HWH.out w hp; rw [hw] at this; exact this)
      have HWH : Hid (∀ w, Laid w → Calls Tryz.prog 149 #[.string x] w fun e w' => e = .returned (.tuple #[.int .i64 n, .bool true]) ∧ Gr w w') := HWH
      clear hset hw n1 n2 n3
      unfold sSTART
      go_enter Tryz.func113, Tryz.ntmps113
      go_wp2_with fail
      refine (HWH.out _ HP.out).mono ?_
      rintro e w1 ⟨rfl, g⟩
      have HB1 := Lib.hid (HB.out.gr g)
      have HG1 := Lib.hid g
      have c1 := HB1.out.cell.2.2.2.2
      have f1 := HB1.out.free 4
      simp only [Nat.zero_add] at c1
      clear g
      go_wp2_with fail
      go_ret
      exact ⟨rfl, by have := set_obj (i := 4) HB1.out (.int .i64 n); rw [← HR.out]; exact this, ((Kp.of_gr HG1.out).set (.inr rfl) 4 _)⟩
  · have HR : Hid (r = r') := Lib.hid (by rw [setF, if_neg n1, if_neg n2, if_neg n3, if_neg n4] at hset; exact Option.some.inj hset)
    have lit : ∀ l : List UInt8, (name.toList == l) = eqS name ⟨l.toArray⟩ := fun l => by unfold eqS; rw [ByteArray.toList_eq ⟨l.toArray⟩]
    have t1 : (name.toList == [75, 69, 89]) = false := by rw [lit, eqS_dec]; exact decide_eq_false n1
    have t2 : (name.toList == [79, 84, 72, 69, 82]) = false := by rw [lit, eqS_dec]; exact decide_eq_false n2
    have t3 : (name.toList == [77, 73, 78]) = false := by rw [lit, eqS_dec]; exact decide_eq_false n3
    have t4 : (name.toList == [83, 84, 65, 82, 84]) = false := by rw [lit, eqS_dec]; exact decide_eq_false n4
    clear hset n1 n2 n3 n4 lit
    go_enter Tryz.func113, Tryz.ntmps113
    go_wp2_with fail
    go_ret
    exact ⟨rfl, by rw [← HR.out]; exact HB.out, Kp.refl _ _⟩
end Go.Proofs.YtnjmgknicffcbaaGreatDoor
