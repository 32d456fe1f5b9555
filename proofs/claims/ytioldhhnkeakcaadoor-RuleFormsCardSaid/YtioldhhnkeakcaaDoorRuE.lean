/- Walks over package rule: put, readRule, where they succeed. -/
import Derived.Test.YtioldhhnkeakcaaDoorRuD
import Derived.Test.YtioldhhnkeakcaaDoorCln
namespace Go.Proofs.YtioldhhnkeakcaaDoor
open Go.RowKit Go.Joins
set_option linter.unusedSimpArgs false
set_option linter.unusedVariables false

/-- The field of that name becomes the word. -/
noncomputable def setF (name : ByteArray) (r : RU) (x : ByteArray) : Option RU :=
  if name = sKEY then some { r with key := x } else if name = sOTHER then some { r with other := x }
  else if name = sMIN then (PV.wholeL x.data.toList).map fun n => { r with min := n } else if name = sSTART then (PV.wholeL x.data.toList).map fun n => { r with start := n } else some r
noncomputable def foldR (r : RU) : List (ByteArray × ByteArray) → Option RU
  | [] => some r
  | (n, x) :: t => (setF n r x).bind fun r' => foldR r' t
theorem foldR_append (r : RU) : ∀ (a b : List (ByteArray × ByteArray)), foldR r (a ++ b) = (foldR r a).bind fun r' => foldR r' b
  | [], b => rfl
  | (n, x) :: a, b => by
    show (setF n r x).bind _ = ((setF n r x).bind _).bind _
    cases setF n r x with
    | none => rfl
    | some r' => exact foldR_append r' a b
/-- The first k words go in, and the next one, too. -/
theorem foldR_step {r r2 : RU} {l : List (ByteArray × ByteArray)} (h : foldR r l = some r2) {k : Nat} (hk : k < l.length) {q : RU} (hq : foldR r (l.take k) = some q) : ∃ q', setF l[k].1 q l[k].2 = some q' ∧ foldR r (l.take (k + 1)) = some q' := by
  have e : l = l.take k ++ (l[k] :: l.drop (k + 1)) := by rw [← List.drop_eq_getElem_cons hk, List.take_append_drop]
  rw [e, foldR_append, hq] at h
  have h2 : (setF l[k].1 q l[k].2).bind (fun r' => foldR r' (l.drop (k + 1))) = some r2 := h
  cases hs : setF l[k].1 q l[k].2 with
  | none => rw [hs] at h2; cases h2
  | some q' =>
    refine ⟨q', rfl, ?_⟩
    rw [List.take_add_one, List.getElem?_eq_getElem hk, foldR_append, hq]
    show (setF l[k].1 q l[k].2).bind _ = _
    rw [hs]; rfl
theorem foldR_start (r : RU) (l : List (ByteArray × ByteArray)) : foldR r (l.take 0) = some r := rfl
/-- A rule lies in this block, all of it. -/
def RBox (w : World) (b : Nat) (r : RU) : Prop := w.heap[b]? = some (.cells (ruv r) 39 (0, 0))
theorem RBox.gr {w w' : World} {b : Nat} {r : RU} (h : RBox w b r) (g : Gr w w') : RBox w' b r := gr_obj g h
theorem RBox.cell {w : World} {b : Nat} {r : RU} (h : RBox w b r) : RCell w b 0 r := ⟨obj_cell h rfl, obj_cell h rfl, obj_cell h rfl, obj_cell h rfl, obj_cell h rfl⟩
theorem RBox.lt {w : World} {b : Nat} {r : RU} (h : RBox w b r) : b < w.heap.size := (Array.getElem?_eq_some_iff.1 h).1
theorem RBox.free {w : World} {b : Nat} {r : RU} (h : RBox w b r) (i : Nat) : w.frozen? ⟨b, i, none⟩ = false := obj_free h
set_option maxRecDepth 100000 in
set_option maxHeartbeats 1000000 in
theorem put_any (B : Nat) (r r' : RU) (name x : ByteArray) (hs : x.size ≤ 281474976710656) (hset : setF name r x = some r') (w : World) (hp : Laid w) (hb : RBox w B r) :
    Calls Tryd.prog 50 #[.pointer (some ⟨B, 0, none⟩), .string name, .string x] w fun e w' => e = .returned (.bool true) ∧ RBox w' B r' ∧ Kp (some B) w w' := by
  have HB := Lib.hid hb
  have HCL := Lib.hid (fun w => clone_any x hs w)
  have HWH := Lib.hid (fun w hp => whole_any x hs w hp)
  have HP := Lib.hid hp
  clear hb hp
  by_cases n1 : name = sKEY
  · subst n1
    have HR : Hid (({ r with key := x } : RU) = r') := Lib.hid (by simpa [setF] using hset)
    clear hset
    unfold sKEY
    go_enter Tryd.func50, Tryd.ntmps50
    go_wp2_with fail
    refine (HCL.out _).mono ?_
    rintro e w1 ⟨rfl, g⟩
    have HB1 := Lib.hid (HB.out.gr g)
    have HG1 := Lib.hid g
    have c1 := HB1.out.cell.2.1
    have f1 := HB1.out.free 1
    simp only [Nat.zero_add] at c1
    clear g
    go_wp2_with fail
    go_ret
    exact ⟨rfl, by have := set_obj (i := 1) HB1.out (.string x); rw [← HR.out]; exact this, ((Kp.of_gr HG1.out).set (.inr rfl) 1 _)⟩
  by_cases n2 : name = sOTHER
  · subst n2
    have HR : Hid (({ r with other := x } : RU) = r') := Lib.hid (by simpa [setF, n1] using hset)
    clear hset n1
    unfold sOTHER
    go_enter Tryd.func50, Tryd.ntmps50
    go_wp2_with fail
    refine (HCL.out _).mono ?_
    rintro e w1 ⟨rfl, g⟩
    have HB1 := Lib.hid (HB.out.gr g)
    have HG1 := Lib.hid g
    have c1 := HB1.out.cell.2.2.1
    have f1 := HB1.out.free 2
    simp only [Nat.zero_add] at c1
    clear g
    go_wp2_with fail
    go_ret
    exact ⟨rfl, by have := set_obj (i := 2) HB1.out (.string x); rw [← HR.out]; exact this, ((Kp.of_gr HG1.out).set (.inr rfl) 2 _)⟩
  by_cases n3 : name = sMIN
  · subst n3
    cases hw : PV.wholeL x.data.toList with
    | none => rw [setF, if_neg n1, if_neg n2, if_pos rfl, hw] at hset; cases hset
    | some n =>
      have HR : Hid (({ r with min := n } : RU) = r') := Lib.hid (by rw [setF, if_neg n1, if_neg n2, if_pos rfl, hw] at hset; exact Option.some.inj hset)
      have HWH := Lib.hid (fun w hp => by have := HWH.out w hp; rw [hw] at this; exact this)
      have HWH : Hid (∀ w, Laid w → Calls Tryd.prog 10 #[.string x] w fun e w' => e = .returned (.tuple #[.int .i64 n, .bool true]) ∧ Gr w w') := HWH
      clear hset hw n1 n2
      unfold sMIN
      go_enter Tryd.func50, Tryd.ntmps50
      go_wp2_with fail
      refine (HWH.out _ HP.out).mono ?_
      rintro e w1 ⟨rfl, g⟩
      have HB1 := Lib.hid (HB.out.gr g)
      have HG1 := Lib.hid g
      have c1 := HB1.out.cell.2.2.2.1
      have f1 := HB1.out.free 3
      simp only [Nat.zero_add] at c1
      clear g
      go_wp2_with fail
      go_ret
      exact ⟨rfl, by have := set_obj (i := 3) HB1.out (.int .i64 n); rw [← HR.out]; exact this, ((Kp.of_gr HG1.out).set (.inr rfl) 3 _)⟩
  by_cases n4 : name = sSTART
  · subst n4
    cases hw : PV.wholeL x.data.toList with
    | none => rw [setF, if_neg n1, if_neg n2, if_neg n3, if_pos rfl, hw] at hset; cases hset
    | some n =>
      have HR : Hid (({ r with start := n } : RU) = r') := Lib.hid (by rw [setF, if_neg n1, if_neg n2, if_neg n3, if_pos rfl, hw] at hset; exact Option.some.inj hset)
      have HWH := Lib.hid (fun w hp => by have := HWH.out w hp; rw [hw] at this; exact this)
      have HWH : Hid (∀ w, Laid w → Calls Tryd.prog 10 #[.string x] w fun e w' => e = .returned (.tuple #[.int .i64 n, .bool true]) ∧ Gr w w') := HWH
      clear hset hw n1 n2 n3
      unfold sSTART
      go_enter Tryd.func50, Tryd.ntmps50
      go_wp2_with fail
      refine (HWH.out _ HP.out).mono ?_
      rintro e w1 ⟨rfl, g⟩
      have HB1 := Lib.hid (HB.out.gr g)
      have HG1 := Lib.hid g
      have c1 := HB1.out.cell.2.2.2.2
      have f1 := HB1.out.free 4
      simp only [Nat.zero_add] at c1
      clear g
      go_wp2_with fail
      go_ret
      exact ⟨rfl, by have := set_obj (i := 4) HB1.out (.int .i64 n); rw [← HR.out]; exact this, ((Kp.of_gr HG1.out).set (.inr rfl) 4 _)⟩
  · have HR : Hid (r = r') := Lib.hid (by rw [setF, if_neg n1, if_neg n2, if_neg n3, if_neg n4] at hset; exact Option.some.inj hset)
    have lit : ∀ l : List UInt8, (name.toList == l) = eqS name ⟨l.toArray⟩ := fun l => by unfold eqS; rw [ByteArray.toList_eq ⟨l.toArray⟩]
    have t1 : (name.toList == [75, 69, 89]) = false := by rw [lit, eqS_dec]; exact decide_eq_false n1
    have t2 : (name.toList == [79, 84, 72, 69, 82]) = false := by rw [lit, eqS_dec]; exact decide_eq_false n2
    have t3 : (name.toList == [77, 73, 78]) = false := by rw [lit, eqS_dec]; exact decide_eq_false n3
    have t4 : (name.toList == [83, 84, 65, 82, 84]) = false := by rw [lit, eqS_dec]; exact decide_eq_false n4
    clear hset n1 n2 n3 n4 lit
    go_enter Tryd.func50, Tryd.ntmps50
    go_wp2_with fail
    go_ret
    exact ⟨rfl, by rw [← HR.out]; exact HB.out, Kp.refl _ _⟩
end Go.Proofs.YtioldhhnkeakcaaDoor
