/- The law VecTexts. -/
import Derived.Test.YtnamjgbppgdgeaaDoorVecH
import Derived.Test.YtnamjgbppgdgeaaDoorVecE
import Derived.Test.YtnamjgbppgdgeaaDoorVecP
import Derived.Deep.RegionHeld3
namespace Go.Proofs.YtnamjgbppgdgeaaDoor
open Go.RowKit Go.Joins

theorem textTo_join (a : Nat → Nat) : textTo a 8 = PV.join [Lib.decDigits (a 0), Lib.decDigits (a 1), Lib.decDigits (a 2), Lib.decDigits (a 3), Lib.decDigits (a 4), Lib.decDigits (a 5), Lib.decDigits (a 6), Lib.decDigits (a 7)] := by
  simp [textTo, PV.join]
theorem readL_text (a : Nat → Nat) (ha : VOk a) : PV.readL (textTo a 8) = some [a 0, a 1, a 2, a 3, a 4, a 5, a 6, a 7] := by
  rw [textTo_join]
  refine PV.readL_join [a 0, a 1, a 2, a 3, a 4, a 5, a 6, a 7] rfl (fun n hn => ?_)
  simp only [List.mem_cons, List.not_mem_nil, or_false] at hn
  rcases hn with rfl | rfl | rfl | rfl | rfl | rfl | rfl | rfl <;> exact ha _ (by decide)
theorem eight {ns : List Nat} (h : ns.length = 8) : ns = [vecOf ns 0, vecOf ns 1, vecOf ns 2, vecOf ns 3, vecOf ns 4, vecOf ns 5, vecOf ns 6, vecOf ns 7] := by
  match ns, h with
  | [a, b, c, d, e, f, g, i], _ => rfl
theorem text_back {l : List UInt8} {ns : List Nat} (h : PV.readL l = some ns) : textTo (vecOf ns) 8 = l ∧ VOk (vecOf ns) := by
  obtain ⟨h8, hj, hb⟩ := PV.readL_some h
  have e := eight h8
  refine ⟨?_, fun k hk => ?_⟩
  · rw [textTo_join, ← hj]
    conv => rhs; rw [e]
    rfl
  · have : vecOf ns k = ns[k]'(by omega) := by simp [vecOf, List.getD, List.getElem?_eq_getElem (by omega : k < ns.length)]
    rw [this]
    exact hb _ (List.getElem_mem _)
theorem read_text (a : Nat → Nat) (ha : VOk a) (w : World) (hS : Sents w) :
    Calls Tryd.prog 23 #[.string ⟨(textTo a 8).toArray⟩] w fun e w' => e = .returned (.tuple #[.agg (vcells a), .int .i64 0]) ∧ Gr w w' := by
  have h := read_any ⟨(textTo a 8).toArray⟩ (by rw [size_arr]; have := textTo_len a ha 8 (Nat.le_refl _); omega) w hS
  rw [show (⟨(textTo a 8).toArray⟩ : ByteArray).data.toList = textTo a 8 from rfl, readL_text a ha] at h
  exact h
theorem keep1 {w w1 w2 : World} {A : Nat} {a : Nat → Nat} (h : Lies w1 A a ∧ Gr w w1) (g : Gr w1 w2) : Lies w2 A a ∧ Gr w w2 := ⟨h.1.gr g, h.2.trans g⟩
theorem awake1 {w w1 : World} {A : Nat} {a : Nat → Nat} (h : Lies w1 A a ∧ Gr w w1) (hp : Pow w) :
    Calls Tryd.prog 8 #[] w1 fun e w' => e = .returned (.bool true) ∧ Gr w1 w' := awake02_any w1 (hp.gr h.2)
theorem text1 {w w1 : World} {A : Nat} {a : Nat → Nat} (h : Lies w1 A a ∧ Gr w w1) (hp : Pow w) (ha : VOk a) :
    Calls Tryd.prog 21 #[.agg (vcells a)] w1 fun e w' => e = .returned (.string ⟨(textTo a 8).toArray⟩) ∧ Gr w1 w' := text_any a ha w1 (hp.gr h.2)
theorem equal_sameX (f : Nat → Nat) (w : World) : (Op.equalIn 10000 24 (.agg (vcells f)) (.agg (vcells f))).run Tryd.prog w = .ok true w := by
  rw [equal_v, eqB_self]

set_option maxRecDepth 100000 in
set_option maxHeartbeats 4000000 in
theorem vecTexts_law (a : Nat → Nat) (ha : VOk a) (s : ByteArray) (hs : s.size ≤ 140737488355328) (w : World) (hp : Pow w ∧ Sents w) :
    Calls Tryd.prog 4 #[.agg (vcells a), .string s] w fun e w' => e = .returned (.bool true) ∧ Gr w w' := by
  obtain ⟨W, hW, hg, hA⟩ := box1c a w
  have HP := Lib.hid hp.1
  have HS := Lib.hid hp.2
  have HV := Lib.hid ha
  have hea := fun w => equal_sameX a w
  clear hp ha
  go_enter Tryd.func4, Tryd.ntmps4
  go_wp2_with fail
  rw [← hW]
  clear hW
  go_region_held3 (fun w' => Lies w' w.heap.size a ∧ Gr w w')
    (first
      | exact ⟨hA, hg.drew⟩
      | (refine keep1 ?_ hb; assumption))
    (first
      | (go_at_call 8; refine (awake1 (by assumption) HP.out).mono ?_; rintro e w2 ⟨rfl, hb⟩)
      | (go_at_call 21; refine (text1 (by assumption) HP.out HV.out).mono ?_; rintro e w2 ⟨rfl, hb⟩)
      | (go_at_call 22; refine (rtext_any a HV.out _).mono ?_; rintro e w2 ⟨rfl, hb⟩))
  have hS := ‹Lies w2 _ _ ∧ Gr w w2›
  clear hA hg
  obtain ⟨hA, hg⟩ := hS
  have HG2 := Lib.hid hg
  clear hg
  go_wp2_with fail
  refine (text_any a HV.out _ (HP.out.gr HG2.out)).mono ?_
  rintro e w3 ⟨rfl, hg3⟩
  have hA3 := hA.gr hg3
  have HG3 := Lib.hid (HG2.out.trans hg3)
  clear hA hg3
  go_wp2_with fail
  refine (read_text a HV.out _ (HS.out.gr HG3.out)).mono ?_
  rintro e w4 ⟨rfl, hg4⟩
  have hA4 := hA3.gr hg4
  have HG4 := Lib.hid (HG3.out.trans hg4)
  clear hA3 hg4
  obtain ⟨W5, rfl, g5, l5⟩ := box1c a w4
  have hA5 := hA4.gr g5
  have HG5 := Lib.hid (HG4.out.trans g5)
  clear g5 hA4
  cases hr : PV.readL s.data.toList with
  | none =>
    have hR := fun w hS => read_any s hs w hS
    have hQ := fun w => rread_any s hs w
    rw [hr] at hR hQ
    have HR := Lib.hid (show ∀ w, Sents w → Calls Tryd.prog 23 #[.string s] w fun e w' => e = .returned (.tuple #[.agg (vcells zro), .int .i64 3]) ∧ Gr w w' from hR)
    have HQ := Lib.hid (show ∀ w, Calls Tryd.prog 24 #[.string s] w fun e w' => e = .returned (.tuple #[.agg (vcells zro), .int .i64 3]) ∧ Gr w w' from hQ)
    have hez := fun w => equal_sameX zro w
    clear hr hR hQ
    go_wp2_with fail
    refine (HR.out _ (HS.out.gr HG5.out)).mono ?_
    rintro e w6 ⟨rfl, hg6⟩
    obtain ⟨W7, rfl, g7, l7⟩ := box1c zro w6
    have HG7 := Lib.hid ((HG5.out.trans hg6).trans g7)
    have HL7 := Lib.hid l7
    clear hg6 g7 l7 l5 hA5
    go_wp2_with fail
    refine (HQ.out _).mono ?_
    rintro e w8 ⟨rfl, hg8⟩
    obtain ⟨W9, rfl, g9, l9⟩ := box1c zro w8
    have hl7 := (HL7.out.gr hg8).gr g9
    have HG9 := Lib.hid ((HG7.out.trans hg8).trans g9)
    clear hg8 g9
    go_wp2_with fail
    go_ret
    exact ⟨rfl, HG9.out⟩
  | some ns =>
    have hR := fun w hS => read_any s hs w hS
    have hQ := fun w => rread_any s hs w
    rw [hr] at hR hQ
    have HR := Lib.hid (show ∀ w, Sents w → Calls Tryd.prog 23 #[.string s] w fun e w' => e = .returned (.tuple #[.agg (vcells (vecOf ns)), .int .i64 0]) ∧ Gr w w' from hR)
    have HQ := Lib.hid (show ∀ w, Calls Tryd.prog 24 #[.string s] w fun e w' => e = .returned (.tuple #[.agg (vcells (vecOf ns)), .int .i64 0]) ∧ Gr w w' from hQ)
    have HT := Lib.hid (show ∀ w, Pow w → Calls Tryd.prog 21 #[.agg (vcells (vecOf ns))] w fun e w' => e = .returned (.string s) ∧ Gr w w' from fun w hp => by
      obtain ⟨t1, t2⟩ := text_back hr
      have h := text_any (vecOf ns) t2 w hp
      rw [t1] at h
      exact h)
    have hez := fun w => equal_sameX (vecOf ns) w
    clear hr hR hQ
    go_wp2_with fail
    refine (HR.out _ (HS.out.gr HG5.out)).mono ?_
    rintro e w6 ⟨rfl, hg6⟩
    obtain ⟨W7, rfl, g7, l7⟩ := box1c (vecOf ns) w6
    have HG7 := Lib.hid ((HG5.out.trans hg6).trans g7)
    have HL7 := Lib.hid l7
    clear hg6 g7 l7 l5 hA5
    go_wp2_with fail
    refine (HQ.out _).mono ?_
    rintro e w8 ⟨rfl, hg8⟩
    obtain ⟨W9, rfl, g9, l9⟩ := box1c (vecOf ns) w8
    have hl7 := (HL7.out.gr hg8).gr g9
    have HG9 := Lib.hid ((HG7.out.trans hg8).trans g9)
    clear hg8 g9
    go_wp2_with fail
    refine (HT.out _ (HP.out.gr HG9.out)).mono ?_
    rintro e w10 ⟨rfl, hg10⟩
    have HG10 := Lib.hid (HG9.out.trans hg10)
    clear hg10
    go_wp2_with fail
    go_ret
    exact ⟨rfl, HG10.out⟩
theorem vecTexts_law2 (a : Nat → Nat) (ha : VOk a) (s : ByteArray) (hs : s.size ≤ 140737488355328) (w : World) (hp : Pow w ∧ Sents w) :
    Calls Tryd.prog 4 #[.agg (vcells a), .string s] w fun e w' => e = .returned (.bool true) ∧ Gr w w' := vecTexts_law a ha s hs w hp
end Go.Proofs.YtnamjgbppgdgeaaDoor
