/- Walks: comparing two disks. -/
import Derived.Test.YtmkcgnljankmdaaDoorDiskB
import Derived.ChangeKeysEq
import Derived.Laws.StructEq
namespace Go.Proofs.YtmkcgnljankmdaaDoor
open Go.RowKit

def fv (f : F) : Array Value := #[.string f.name, .string f.kept, .string f.loose]
def eqFB (f g : F) : Bool := eqS f.name g.name && (eqS f.kept g.kept && eqS f.loose g.loose)
theorem eqFB_iff {f g : F} : eqFB f g = true ↔ f = g := by
  unfold eqFB
  rw [Bool.and_eq_true, Bool.and_eq_true, eqS_iff, eqS_iff, eqS_iff]
  refine ⟨fun ⟨h1, h2, h3⟩ => ?_, fun h => by subst h; exact ⟨rfl, rfl, rfl⟩⟩
  cases f; cases g
  simp_all
theorem fieldsFile : ∃ f0 f1 f2 : Field, Tryd.prog.fieldsOf 46 = #[f0, f1, f2] ∧ f0.name ≠ "_" ∧ f1.name ≠ "_" ∧ f2.name ≠ "_" ∧ f0.type = 9 ∧ f1.type = 9 ∧ f2.type = 9 ∧ f0.offset = 0 ∧ f1.offset = 1 ∧ f2.offset = 2 := by
  refine ⟨(Tryd.prog.fieldsOf 46)[0]'(by decide +kernel), (Tryd.prog.fieldsOf 46)[1]'(by decide +kernel), (Tryd.prog.fieldsOf 46)[2]'(by decide +kernel), by kernel_rfl, by decide +kernel, by decide +kernel, by decide +kernel, by kernel_rfl, by kernel_rfl, by kernel_rfl, by kernel_rfl, by kernel_rfl, by kernel_rfl⟩
theorem part_f (f : F) (w : World) : (part 9 (fv f) 0).run Tryd.prog w = .ok (.string f.name) w ∧ (part 9 (fv f) 1).run Tryd.prog w = .ok (.string f.kept) w ∧ (part 9 (fv f) 2).run Tryd.prog w = .ok (.string f.loose) w := by
  refine ⟨?_, ?_, ?_⟩ <;> (show _ = _; kernel_rfl)
theorem equal_f (f g : F) (w : World) : (Op.equalIn 10000 46 (.agg (fv f)) (.agg (fv g))).run Tryd.prog w = .ok (eqFB f g) w := by
  obtain ⟨f0, f1, f2, hf, n0, n1, n2, t0, t1, t2, o0, o1, o2⟩ := fieldsFile
  obtain ⟨p0, p1, p2⟩ := part_f f w
  obtain ⟨q0, q1, q2⟩ := part_f g w
  rw [run_equalIn_struct w 9999 _ _ _ (by kernel_rfl) (by kernel_rfl), hf]
  simp only [Op.eqFields, n0, n1, n2, t0, t1, t2, o0, o1, o2, if_true, ne_eq, not_false_eq_true, Sem.run_bind, p0, p1, p2, q0, q1, q2, Result.andThen_ok, run_equalIn_string w 9998 9 _ _ Tryd.underlying9, Sem.run_ite, Sem.run_pure]
  unfold eqFB eqS
  cases (f.name.toList == g.name.toList) <;> cases (f.kept.toList == g.kept.toList) <;> cases (f.loose.toList == g.loose.toList) <;> simp

def SameRel (La Lb : List F) (W : World) (i : Value) (wr : World) : Prop :=
  ∃ k m : Nat, k ≤ La.length ∧ i = .int .i64 k ∧ wr = W.drewN m ∧ ∀ j (h1 : j < La.length) (h2 : j < Lb.length), j < k → La[j] = Lb[j]
def sameB : List F → List F → Bool
  | [], [] => true
  | f :: a, g :: b => eqFB f g && sameB a b
  | _, _ => false
theorem sameB_iff {La Lb : List F} : sameB La Lb = true ↔ La = Lb := by
  induction La generalizing Lb with
  | nil => cases Lb <;> simp [sameB]
  | cons f a ih =>
    cases Lb with
    | nil => simp [sameB]
    | cons g b => simp [sameB, eqFB_iff, ih]
theorem sameB_yes {La Lb : List F} (h : La = Lb) : sameB La Lb = true := sameB_iff.2 h
theorem sameB_no {La Lb : List F} (h : La ≠ Lb) : sameB La Lb = false := by
  rw [Bool.eq_false_iff]
  exact fun e => h (sameB_iff.1 e)

set_option maxRecDepth 100000 in
set_option maxHeartbeats 1000000 in
theorem same_any (va vb : Value) (La Lb : List F) (w : World) (ha : FV w va La) (hb : FV w vb Lb) :
    Calls Tryd.prog 14 #[.agg #[va], .agg #[vb]] w fun e w' => e = .returned (.bool (sameB La Lb)) ∧ Gr w w' := by
  obtain ⟨A, ca, rfl, la1, ⟨la2, _⟩, la3⟩ := ha
  obtain ⟨B, cb, rfl, lb1, ⟨lb2, _⟩, lb3⟩ := hb
  unfold maxLen at la2 lb2
  obtain ⟨n, hn⟩ : ∃ n, n = La.length := ⟨_, rfl⟩
  by_cases hl : La.length = Lb.length
  · have HL := Lib.hid hl
    rw [← hl, ← hn] at lb1
    rw [← hl, ← hn]
    rw [← hn] at la1
    have HN := Lib.hid hn
    have ht : ((n : Int) != (n : Int)) = false := by simp
    have HA := Lib.hid la3
    have HB := Lib.hid lb3
    clear hl hn la3 lb3
    have HG := fun A B => Lib.hid ((gr_box w (.cells #[.slice A n ca] 24)).alloc (.cells #[.slice B n cb] 24))
    go_enter Tryd.func14, Tryd.ntmps14
    go_wp2_with fail
    go_loopw [5] (fun i wr => SameRel La Lb ((w.alloc (.cells #[.slice A n ca] 24)).alloc (.cells #[.slice B n cb] 24)) i wr) (fun i _ => n - (intOf i).toNat)
    case atStart => exact ⟨0, 0, Nat.zero_le _, rfl, rfl, fun j _ _ h => absurd h (Nat.not_lt_zero _)⟩
    case round =>
      obtain ⟨k, m, hk, rfl, rfl, hkk⟩ := hrel
      rw [← HN.out] at hk
      have HK := Lib.hid hkk
      clear hkk
      by_cases hlt : k < n
      · have hkA : k < La.length := by rw [← HN.out]; exact hlt
        have hkB : k < Lb.length := by rw [← HL.out, ← HN.out]; exact hlt
        obtain ⟨b, off, rfl, ha0, ha1, ha2⟩ := HA.out k hkA
        obtain ⟨b', off', rfl, hb0, hb1, hb2⟩ := HB.out k hkB
        obtain ⟨f, hf⟩ : ∃ f, f = La[k] := ⟨_, rfl⟩
        obtain ⟨g, hg⟩ : ∃ g, g = Lb[k] := ⟨_, rfl⟩
        have G := (HG (some ⟨b, off, none⟩) (some ⟨b', off', none⟩)).out
        rw [← hf] at ha0 ha1 ha2
        rw [← hg] at hb0 hb1 hb2
        have a0 := G.cell ha0
        have a1 := G.cell ha1
        have a2 := G.cell ha2
        have c0 := G.cell hb0
        have c1 := G.cell hb1
        have c2 := G.cell hb2
        clear ha0 ha1 ha2 hb0 hb1 hb2 G
        have he := fun w => equal_f f g w
        unfold fv at he
        rcases hq : eqFB f g with _ | _
        · have hne : La ≠ Lb := fun h => by
            subst h
            rw [hf, hg] at hq
            rw [eqFB_iff.2 rfl] at hq
            cases hq
          have HF := Lib.hid (sameB_no hne)
          rw [hq] at he
          clear hq hf hg hne hkA hkB
          go_wp2_with fail
          go_quiet (fail)
          go_wp2
          go_ret
          exact ⟨by rw [HF.out]; rfl, by rw [World.drewN_drewN]; exact ((HG _ _).out.drewN _)⟩
        · have hst : ∀ j (h1 : j < La.length) (h2 : j < Lb.length), j < k + 1 → La[j] = Lb[j] := by
            intro j h1 h2 hj
            by_cases e : j = k
            · subst e; rw [← hf, ← hg]; exact eqFB_iff.1 hq
            · exact HK.out j h1 h2 (by omega)
          have HS := Lib.hid hst
          rw [hq] at he
          clear hq hf hg hst hkA hkB
          go_wp2_with fail
          go_quiet (fail)
          go_wp2
          go_roundw
          case rel => exact ⟨k + 1, _, by rw [← HN.out]; omega, by go_num, rfl, HS.out⟩
          case measure => simp [intOf]; omega
      · have hall : La = Lb := List.ext_getElem HL.out fun j h1 h2 => HK.out j h1 h2 (by rw [← HN.out] at h1; omega)
        have HF := Lib.hid (sameB_yes hall)
        clear hall
        go_wp2_with fail
        go_ret
        exact ⟨by rw [HF.out]; rfl, (HG _ _).out.drewN _⟩
  · have HF := Lib.hid (sameB_no (La := La) (Lb := Lb) (fun h => hl (by rw [h])))
    have ht : ((La.length : Int) != (Lb.length : Int)) = true := by rw [bne_iff_ne]; omega
    obtain ⟨m, hm⟩ : ∃ m, m = Lb.length := ⟨_, rfl⟩
    rw [← hm] at ht lb1 ⊢
    rw [← hn] at ht la1 ⊢
    clear hl hn hm la3 lb3
    have HG := Lib.hid ((gr_box w (.cells #[.slice A n ca] 24)).alloc (.cells #[.slice B m cb] 24))
    go_enter Tryd.func14, Tryd.ntmps14
    go_wp2_with fail
    go_ret
    exact ⟨by rw [HF.out]; rfl, HG.out⟩
end Go.Proofs.YtmkcgnljankmdaaDoor
