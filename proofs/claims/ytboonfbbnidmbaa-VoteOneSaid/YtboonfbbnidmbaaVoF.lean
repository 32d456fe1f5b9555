/- The law VotePromises. -/
import Derived.Test.YtboonfbbnidmbaaVoE
import Derived.Test.YtboonfbbnidmbaaVoV
import Derived.Deep.RegionLaw
import Derived.Deep.Cut
import Derived.StillTailTactics
import Derived.Test.YtboonfbbnidmbaaQTail
namespace Go.Proofs.Ytboonfbbnidmbaa
open Go.RowKit Vo
set_option linter.unusedSimpArgs false

section
variable {P : Program} {ops : Array Oper} {o : Oper} {a : Act} {W : World} {K : Act → World → Prop} {Q : Exit → Act → World → Prop} {E : Prop}
/-- A call of a function, as a step of a region that draws its order. -/
theorem vstep_call (hgd : o.guard = none) (f : FuncId) (args : List Operand) (ts : Array TypeId) (ho : o.op = .call { callee := .value (.func f), args := args.toArray, argTypes := ts }) (vals : List Value) (hv : args.map a.eval = vals) (hf : ∀ vals, (callFunc f vals).run P W = .ok (.enter f vals) W)
    {X : Value → World → Prop} (hc : Calls P f vals.toArray W fun e w' => ∃ v, e = .returned v ∧ X v w') (h : ∀ v w', X v w' → K (a.put o.dst v) w') :
    if Region.wanted o (yielded ops a.tmps) = true then Oper.wp P o a W K Q else E := by
  have hw : Region.wanted o (yielded ops a.tmps) = true := by simp [Region.wanted, hgd]
  rw [if_pos hw]
  unfold Oper.wp
  have e : (execOp a.eval o).run P W = .ok (.enter f vals.toArray) W := by
    subst hv
    simp [execOp, ho, resolve, invoke, Act.eval, go_sem]
    exact hf _
  rw [e, Oper.upon_enter]
  refine hc.mono ?_
  rintro e w' ⟨v, rfl, hx⟩
  exact h v w' hx
end
theorem cf_prepare (W : World) (vals : Array Value) : (callFunc 11 vals).run Try.prog W = .ok (.enter 11 vals) W := by
  have hf : Try.prog.funcs[11]? = some Try.f11 := Try.func11
  simp [callFunc, hf, Try.f11, go_sem]
theorem cf_accept (W : World) (vals : Array Value) : (callFunc 13 vals).run Try.prog W = .ok (.enter 13 vals) W := by
  have hf : Try.prog.funcs[13]? = some Try.f13 := Try.func13
  simp [callFunc, hf, Try.f13, go_sem]
def vstr : ByteArray := ⟨#[118]⟩
theorem prFacts {p a m q : Nat} {s : ByteArray} {ok : Bool} (hap : a ≤ p) (hs : s.size ≤ 1) (hq : q = prN p m) (hok : ok = decide (p < m)) : (ok = true → q = m) ∧ (ok = false → q = p ∧ a = a ∧ s = s) ∧ p ≤ q ∧ a ≤ q ∧ s.size ≤ 1 := by
  subst hq hok
  unfold prN
  by_cases h : p < m
  · rw [if_pos h, decide_eq_true h]
    exact ⟨fun _ => rfl, fun h => (by cases h), by omega, by omega, hs⟩
  · rw [if_neg h, decide_eq_false h]
    exact ⟨fun h => (by cases h), fun _ => ⟨rfl, rfl, rfl⟩, Nat.le_refl _, hap, hs⟩
theorem acFacts {p a m p2 a2 : Nat} {s s2 : ByteArray} {ok2 : Bool} (hap : a ≤ p) (hs : s.size ≤ 1) (h1 : p2 = acN p m p) (h2 : a2 = acN p m a) (h3 : s2 = acS p m s vstr) (h4 : ok2 = acB p m) : (ok2 = true → p2 = m) ∧ (ok2 = false → p2 = p ∧ a2 = a ∧ s2 = s) ∧ p ≤ p2 ∧ a2 ≤ p2 ∧ s2.size ≤ 1 := by
  subst h1 h2 h3 h4
  unfold acN acS
  rcases h : acB p m with _ | _
  · exact ⟨fun h => (by cases h), fun _ => ⟨rfl, rfl, rfl⟩, Nat.le_refl _, hap, hs⟩
  · unfold acB at h
    simp only [Bool.and_eq_true, decide_eq_true_eq] at h
    exact ⟨fun _ => rfl, fun h => (by cases h), h.1, Nat.le_refl _, show vstr.size ≤ 1 by decide⟩
/-- What the loop of VotePromises keeps: an acceptor in its box. -/
def PrRel (w : World) (b : Nat) (K : List Nat) (i : Value) (wr : World) : Prop :=
  ∃ (k p a : Nat) (s : ByteArray), k ≤ K.length ∧ i = .int .i64 (k : Int) ∧ a ≤ p ∧ s.size ≤ 1 ∧ wr.heap[b]? = some (.cells (accs p a s) 24 (0, 0)) ∧ Gr w wr ∧ w.heap.size ≤ b
set_option maxRecDepth 100000 in
set_option maxHeartbeats 2000000 in
theorem votePromises_any (v : Value) (K : List Nat) (w : World) (hv : UV w v K) :
    Calls Try.prog 4 #[v] w fun e w' => e = .returned (.bool true) ∧ Gr w w' := by
  obtain ⟨A, c, rfl, h1, h2, h3⟩ := hv.form
  obtain ⟨n, hn⟩ : ∃ n, n = K.length := ⟨_, rfl⟩
  rw [← hn] at h1 ⊢
  have HN := Lib.hid hn
  have HV := Lib.hid h3
  clear hv h3 hn
  go_enter Try.func4, Try.ntmps4
  go_wp2_with fail
  refine (awake16_any _).mono ?_
  rintro e w1 ⟨rfl, g1⟩
  have HG1 := Lib.hid g1
  clear g1
  go_upto_region 4 with (fail)
  obtain ⟨W2, h2', g2, hb2⟩ := box_acc 0 0 ⟨#[]⟩ w1
  have HB2 := Lib.hid hb2
  have HG2 := Lib.hid (HG1.out.trans g2)
  have e2 : W2 = w1.alloc (.cells #[.int .u64 0, .int .u64 0, .string ⟨#[]⟩] 24) := h2'
  have HL := Lib.hid HG1.out.size
  clear hb2 g2 h2'
  rw [← e2]
  clear e2
  obtain ⟨b3, hb3⟩ : ∃ b, b = w1.heap.size := ⟨_, rfl⟩
  rw [← hb3] at HB2 HL ⊢
  clear hb3
  go_wp2_with fail
  go_loopw [4, 5, 6] (fun i _ _ wr => PrRel w b3 K i wr) (fun i _ _ _ => n - (intOf i).toNat)
  case atStart => exact ⟨0, 0, 0, ⟨#[]⟩, Nat.zero_le _, rfl, Nat.le_refl _, by decide, HB2.out, HG2.out, HL.out⟩
  case round =>
    clear HB2 HG2 HL
    obtain ⟨k, p, a, s, hk, rfl, hap, hs, hb, hgr, hlb⟩ := hrel
    rw [← HN.out] at hk
    have HGR := Lib.hid hgr
    have HB := Lib.hid hb
    have HAP := Lib.hid hap
    have HS := Lib.hid hs
    have HLB := Lib.hid hlb
    clear hgr hb hap hs hlb
    by_cases hlt : k < n
    · have hkK : k < K.length := by rw [← HN.out]; exact hlt
      obtain ⟨b, off, rfl, hm⟩ := HV.out k hkK
      obtain ⟨m, hmm⟩ : ∃ m, m = K[k] := ⟨_, rfl⟩
      rw [← hmm] at hm
      have HM := Lib.hid hm
      have hk0 : (0 : Int) ≤ (k : Int) := Int.natCast_nonneg _
      clear hm hmm hkK
      obtain ⟨q, hq⟩ : ∃ q, q = prN p m := ⟨_, rfl⟩
      obtain ⟨ok, hok⟩ : ∃ ok, ok = decide (p < m) := ⟨_, rfl⟩
      have HC0 : Hid (∀ W : World, Calls Try.prog 11 #[acv p a s, .int .u64 (m : Int)] W fun e w' => ∃ v, e = .returned v ∧ v = .tuple #[acv q a s, .bool ok] ∧ Gr W w') := Lib.hid (fun W => (prepare_any p a m s (by have := HS.out; omega) W).mono fun e w' h => ⟨_, h.1, by rw [hq, hok], h.2⟩)
      have HQ := Lib.hid hq
      have HO := Lib.hid hok
      have HLW : Hid (b3 < wr.heap.size) := Lib.hid (Array.getElem?_eq_some_iff.1 HB.out).1
      have HGB : Hid (Gr wr (wr.alloc (.cells #[.int .u64 0, .int .u64 0, .string ⟨#[]⟩] 24)).drew) := Lib.hid ((gr_box _ _).trans (Gr.refl _).drew)
      have HZ8 : Hid ((wr.alloc (.cells #[.int .u64 0, .int .u64 0, .string ⟨#[]⟩] 24)).drew.heap[wr.heap.size]? = some (.cells acc0 24 (0, 0))) := Lib.hid (gr_obj' (Gr.refl _).drew (MapKept.heap_alloc wr _).1)
      have HCA := Lib.hid (HC0.out wr.drew)
      have HCB := Lib.hid (HC0.out (wr.alloc (.cells #[.int .u64 0, .int .u64 0, .string ⟨#[]⟩] 24)).drew)
      have hm1 : wr.cell? ⟨b, off + k, none⟩ = some (.int .u64 (m : Int)) := HGR.out.cell HM.out
      have HM1 := Lib.hid hm1
      clear HC0 hq hok hm1
      go_upto_region 7 with (fail)
      go_cut [5, 6] (fun s5 s6 wx => ∃ b5, s5 = .pointer (some ⟨b5, 0, none⟩) ∧ s6 = .bool ok ∧ Hid (wx.heap[b5]? = some (.cells (accs q a s) 24 (0, 0)) ∧ b3 < b5 ∧ Gr wr wx))
      case first =>
        have hob := gr_obj' (Gr.refl wr).drew HB.out
        have d0 : wr.drew.cell? ⟨b3, 0, none⟩ = some (.int .u64 (p : Int)) := cell_of_obj hob rfl
        have d1 : wr.drew.cell? ⟨b3, 1, none⟩ = some (.int .u64 (a : Int)) := cell_of_obj hob rfl
        have d2 : wr.drew.cell? ⟨b3, 2, none⟩ = some (.string s) := cell_of_obj hob rfl
        have d3 := (Gr.refl wr).drew.cell HM1.out
        have hoc := gr_obj' (gr_box wr (.cells #[.int .u64 0, .int .u64 0, .string ⟨#[]⟩] 24)) HB.out
        have e0 : (wr.alloc (.cells #[.int .u64 0, .int .u64 0, .string ⟨#[]⟩] 24)).cell? ⟨b3, 0, none⟩ = some (.int .u64 (p : Int)) := cell_of_obj hoc rfl
        have e1 : (wr.alloc (.cells #[.int .u64 0, .int .u64 0, .string ⟨#[]⟩] 24)).cell? ⟨b3, 1, none⟩ = some (.int .u64 (a : Int)) := cell_of_obj hoc rfl
        have e2 : (wr.alloc (.cells #[.int .u64 0, .int .u64 0, .string ⟨#[]⟩] 24)).cell? ⟨b3, 2, none⟩ = some (.string s) := cell_of_obj hoc rfl
        have e3 := (gr_box wr (.cells #[.int .u64 0, .int .u64 0, .string ⟨#[]⟩] 24)).cell HM1.out
        clear hob hoc
        go_region_law
          first
          | (refine vstep_call rfl 11 [.tmp 16, .tmp 20] _ rfl [acv p a s, .int .u64 (m : Int)] rfl (cf_prepare _) HCA.out ?_
             intro v5 w2 h5
             obtain ⟨rfl, g2⟩ := h5
             have HG2 : Hid (Gr wr w2) := Lib.hid ((Gr.refl wr).drew.trans g2)
             clear g2)
          | (refine vstep_call rfl 11 [.tmp 16, .tmp 20] _ rfl [acv p a s, .int .u64 (m : Int)] rfl (cf_prepare _) HCB.out ?_
             intro v5 w2 h5
             obtain ⟨rfl, g2⟩ := h5
             have HG2 : Hid (Gr wr w2) := Lib.hid (HGB.out.trans g2)
             have HB8 := Lib.hid (gr_obj' g2 HZ8.out)
             have y0 : w2.cell? ⟨wr.heap.size, 0, none⟩ = some (.int .u64 0) := cell_of_obj HB8.out rfl
             have y1 : w2.cell? ⟨wr.heap.size, 1, none⟩ = some (.int .u64 0) := cell_of_obj HB8.out rfl
             have y2 : w2.cell? ⟨wr.heap.size, 2, none⟩ = some (.string ⟨#[]⟩) := cell_of_obj HB8.out rfl
             have f0 := free_of_obj 0 HB8.out
             have f1 := free_of_obj 1 HB8.out
             have f2 := free_of_obj 2 HB8.out
             clear g2)
        all_goals
          clear d0 d1 d2 d3 e0 e1 e2 e3 HCA HCB
          go_wp2
          go_meet
          first
            | (obtain ⟨W3, h3, hx3, ho3, hg3⟩ := store_acc HB8.out q a s
               exact ⟨wr.heap.size, rfl, rfl, Lib.hid (by rw [← h3]; exact ⟨hx3, HLW.out, hg3 _ HG2.out (Nat.le_refl _)⟩)⟩)
            | exact ⟨w2.heap.size, rfl, rfl, Lib.hid ⟨(MapKept.heap_alloc w2 _).1, Nat.lt_of_lt_of_le HLW.out HG2.out.size, HG2.out.alloc _⟩⟩
      case rest =>
        obtain ⟨b5, rfl, rfl, HC⟩ := hcut
        clear HCA HCB HZ8 HGB
        have HX := Lib.hid HC.out.1
        have HY := Lib.hid (gr_obj' HC.out.2.2 HB.out)
        have HGC := Lib.hid (HGR.out.trans HC.out.2.2)
        have HMC := Lib.hid (HC.out.2.2.cell HM1.out)
        have HB35 := Lib.hid HC.out.2.1
        have HB5 : Hid (w.heap.size ≤ b5) := Lib.hid (Nat.le_of_lt (Nat.lt_of_le_of_lt HLB.out HC.out.2.1))
        clear HC HB
        have hEnd : ∃ p2 a2 s2 ok2, p2 = acN p m p ∧ a2 = acN p m a ∧ s2 = acS p m s vstr ∧ ok2 = acB p m := ⟨_, _, _, _, rfl, rfl, rfl, rfl⟩
        obtain ⟨p2, a2, s2, ok2, hp2, ha2, hs2, hok2⟩ := hEnd
        have HAC : Hid (∀ W : World, Calls Try.prog 13 #[acv p a s, .int .u64 (m : Int), .string ⟨#[118]⟩] W fun e w' => e = .returned (.tuple #[acv p2 a2 s2, .bool ok2]) ∧ Gr W w') := Lib.hid (fun W => by
          rw [hp2, ha2, hs2, hok2]
          exact accept_any p a m s vstr (by have := HS.out; omega) (by decide) W)
        have HE : Hid ((ok = true → q = m) ∧ (ok = false → q = p ∧ a = a ∧ s = s) ∧ p ≤ q ∧ a ≤ q ∧ s.size ≤ 1) := Lib.hid (prFacts HAP.out HS.out HQ.out HO.out)
        have HO2 : Hid ((ok2 = true → p2 = m) ∧ (ok2 = false → p2 = p ∧ a2 = a ∧ s2 = s) ∧ p ≤ p2 ∧ a2 ≤ p2 ∧ s2.size ≤ 1) := Lib.hid (acFacts HAP.out HS.out hp2 ha2 hs2 hok2)
        clear hp2 ha2 hs2 hok2 HQ HO
        rcases (by omega : (k : Int) % 2 = 0 ∨ (k : Int) % 2 = 1) with hpar | hpar
        · go_upto_region 10 with (fail)
          clear hpar HAC HO2
          have HX4 := HX
          have HY4 := HY
          have HM4 := HMC
          have HG4 := HGC
          clear HX HY HMC HGC
          rcases (by cases ok <;> simp : ok = false ∨ ok = true) with hok | hok
          · have HF6 : Hid (a ≤ p ∧ s.size ≤ 1) := Lib.hid ⟨HAP.out, HS.out⟩
            have HX6 : Hid (wc.heap[b5]? = some (.cells (accs p a s) 24 (0, 0))) := Lib.hid (by
              have e := HE.out.2.1 hok
              have h := HX4.out
              rw [e.1] at h
              exact h)
            rw [hok]
            clear hok HX4 HE
            have x0 : wc.cell? ⟨b5, 0, none⟩ = some (.int .u64 (p : Int)) := cell_of_obj HX6.out rfl
            have x1 : wc.cell? ⟨b5, 1, none⟩ = some (.int .u64 (a : Int)) := cell_of_obj HX6.out rfl
            have x2 : wc.cell? ⟨b5, 2, none⟩ = some (.string s) := cell_of_obj HX6.out rfl
            have y0 : wc.cell? ⟨b3, 0, none⟩ = some (.int .u64 (p : Int)) := cell_of_obj HY4.out rfl
            have y1 : wc.cell? ⟨b3, 1, none⟩ = some (.int .u64 (a : Int)) := cell_of_obj HY4.out rfl
            have y2 : wc.cell? ⟨b3, 2, none⟩ = some (.string s) := cell_of_obj HY4.out rfl
            have l0 := HM4.out
            have g1 : decide (p < a) = false := decide_eq_false (by have := HAP.out; omega)
            have he := fun w => equal_acc p a s w
            refine qRegion (fun w' => w'.cell? ⟨b5, 0, none⟩ = some (.int .u64 (p : Int)) ∧ w'.cell? ⟨b5, 1, none⟩ = some (.int .u64 (a : Int)) ∧ w'.cell? ⟨b5, 2, none⟩ = some (.string s) ∧ w'.cell? ⟨b3, 0, none⟩ = some (.int .u64 (p : Int)) ∧ w'.cell? ⟨b3, 1, none⟩ = some (.int .u64 (a : Int)) ∧ w'.cell? ⟨b3, 2, none⟩ = some (.string s) ∧ w'.cell? ⟨b, off + k, none⟩ = some (.int .u64 (m : Int)) ∧ Gr wc w') (by kernel_rfl) (by kernel_rfl) ⟨(Gr.refl _).drew.cell x0, (Gr.refl _).drew.cell x1, (Gr.refl _).drew.cell x2, (Gr.refl _).drew.cell y0, (Gr.refl _).drew.cell y1, (Gr.refl _).drew.cell y2, (Gr.refl _).drew.cell l0, (Gr.refl _).drew⟩ ?_
            iterate 24
              refine qTake (by kernel_rfl) ?_
              apply Exists.intro
              refine ⟨fun wq hq => ?_, ?_⟩
              · go_light
                obtain ⟨e0, e1, e2, e3, e4, e5, e6, e7⟩ := hq
                go_simp
                try with_reducible rfl
                done
              try simp only [Act.put, List.setIfInBounds_toArray, List.set_cons_zero, List.set_cons_succ]
            iterate 7
              refine qSkip (by kernel_rfl) ?_
              try simp only [Act.put, List.setIfInBounds_toArray, List.set_cons_zero, List.set_cons_succ]
            iterate 2
              refine qTake (by kernel_rfl) ?_
              apply Exists.intro
              refine ⟨fun wq hq => ?_, ?_⟩
              · go_light
                obtain ⟨e0, e1, e2, e3, e4, e5, e6, e7⟩ := hq
                go_simp
                try with_reducible rfl
                done
              try simp only [Act.put, List.setIfInBounds_toArray, List.set_cons_zero, List.set_cons_succ]
            refine qNil ?_
            intro w5 hC5
            have HX7 := Lib.hid (gr_obj' hC5.2.2.2.2.2.2.2 HX6.out)
            have HY7 := Lib.hid (gr_obj' hC5.2.2.2.2.2.2.2 HY4.out)
            have HG7 := Lib.hid (HG4.out.trans hC5.2.2.2.2.2.2.2)
            clear hC5 x0 x1 x2 y0 y1 y2 l0
            have x0 : w5.cell? ⟨b5, 0, none⟩ = some (.int .u64 (p : Int)) := cell_of_obj HX7.out rfl
            have x1 : w5.cell? ⟨b5, 1, none⟩ = some (.int .u64 (a : Int)) := cell_of_obj HX7.out rfl
            have x2 : w5.cell? ⟨b5, 2, none⟩ = some (.string s) := cell_of_obj HX7.out rfl
            have y0 : w5.cell? ⟨b3, 0, none⟩ = some (.int .u64 (p : Int)) := cell_of_obj HY7.out rfl
            have y1 : w5.cell? ⟨b3, 1, none⟩ = some (.int .u64 (a : Int)) := cell_of_obj HY7.out rfl
            have y2 : w5.cell? ⟨b3, 2, none⟩ = some (.string s) := cell_of_obj HY7.out rfl
            have z0 := free_of_obj 0 HY7.out
            have z1 := free_of_obj 1 HY7.out
            have z2 := free_of_obj 2 HY7.out
            go_upto_region 6 with (fail)
            obtain ⟨W6, h6, hx6, ho6, hg6⟩ := store_acc HY7.out p a s
            rw [← h6]
            clear h6 x0 x1 x2 y0 y1 y2 z0 z1 z2
            have HX8 := Lib.hid hx6
            have HG8 := Lib.hid (hg6 _ HG7.out HLB.out)
            clear hx6 ho6 hg6
            go_wp2_with fail
            go_roundw
            case rel => exact ⟨k + 1, p, a, s, by rw [← HN.out]; exact hlt, by go_num, HF6.out.1, HF6.out.2, HX8.out, HG8.out, HLB.out⟩
            case measure => simp [intOf]; omega
          · have HF6 : Hid (a ≤ m ∧ s.size ≤ 1) := Lib.hid (by have e := HE.out.1 hok; have h := HE.out.2.2; rw [e] at h; exact ⟨h.2.1, h.2.2⟩)
            have HPM : Hid (p ≤ m) := Lib.hid (by have e := HE.out.1 hok; have h := HE.out.2.2.1; rw [e] at h; exact h)
            have HX6 : Hid (wc.heap[b5]? = some (.cells (accs m a s) 24 (0, 0))) := Lib.hid (by
              have e := HE.out.1 hok
              have h := HX4.out
              rw [e] at h
              exact h)
            rw [hok]
            clear hok HX4 HE
            have x0 : wc.cell? ⟨b5, 0, none⟩ = some (.int .u64 (m : Int)) := cell_of_obj HX6.out rfl
            have x1 : wc.cell? ⟨b5, 1, none⟩ = some (.int .u64 (a : Int)) := cell_of_obj HX6.out rfl
            have x2 : wc.cell? ⟨b5, 2, none⟩ = some (.string s) := cell_of_obj HX6.out rfl
            have y0 : wc.cell? ⟨b3, 0, none⟩ = some (.int .u64 (p : Int)) := cell_of_obj HY4.out rfl
            have y1 : wc.cell? ⟨b3, 1, none⟩ = some (.int .u64 (a : Int)) := cell_of_obj HY4.out rfl
            have y2 : wc.cell? ⟨b3, 2, none⟩ = some (.string s) := cell_of_obj HY4.out rfl
            have l0 := HM4.out
            have g1 : decide (m < a) = false := decide_eq_false (by have := HF6.out.1; omega)
            have g2 : decide (m < p) = false := decide_eq_false (by have := HPM.out; omega)
            refine qRegion (fun w' => w'.cell? ⟨b5, 0, none⟩ = some (.int .u64 (m : Int)) ∧ w'.cell? ⟨b5, 1, none⟩ = some (.int .u64 (a : Int)) ∧ w'.cell? ⟨b5, 2, none⟩ = some (.string s) ∧ w'.cell? ⟨b3, 0, none⟩ = some (.int .u64 (p : Int)) ∧ w'.cell? ⟨b3, 1, none⟩ = some (.int .u64 (a : Int)) ∧ w'.cell? ⟨b3, 2, none⟩ = some (.string s) ∧ w'.cell? ⟨b, off + k, none⟩ = some (.int .u64 (m : Int)) ∧ Gr wc w') (by kernel_rfl) (by kernel_rfl) ⟨(Gr.refl _).drew.cell x0, (Gr.refl _).drew.cell x1, (Gr.refl _).drew.cell x2, (Gr.refl _).drew.cell y0, (Gr.refl _).drew.cell y1, (Gr.refl _).drew.cell y2, (Gr.refl _).drew.cell l0, (Gr.refl _).drew⟩ ?_
            iterate 16
              refine qTake (by kernel_rfl) ?_
              apply Exists.intro
              refine ⟨fun wq hq => ?_, ?_⟩
              · go_light
                obtain ⟨e0, e1, e2, e3, e4, e5, e6, e7⟩ := hq
                go_simp
                try with_reducible rfl
                done
              try simp only [Act.put, List.setIfInBounds_toArray, List.set_cons_zero, List.set_cons_succ]
            iterate 3
              refine qSkip (by kernel_rfl) ?_
              try simp only [Act.put, List.setIfInBounds_toArray, List.set_cons_zero, List.set_cons_succ]
            iterate 14
              refine qTake (by kernel_rfl) ?_
              apply Exists.intro
              refine ⟨fun wq hq => ?_, ?_⟩
              · go_light
                obtain ⟨e0, e1, e2, e3, e4, e5, e6, e7⟩ := hq
                go_simp
                try with_reducible rfl
                done
              try simp only [Act.put, List.setIfInBounds_toArray, List.set_cons_zero, List.set_cons_succ]
            refine qNil ?_
            intro w5 hC5
            have HX7 := Lib.hid (gr_obj' hC5.2.2.2.2.2.2.2 HX6.out)
            have HY7 := Lib.hid (gr_obj' hC5.2.2.2.2.2.2.2 HY4.out)
            have HG7 := Lib.hid (HG4.out.trans hC5.2.2.2.2.2.2.2)
            clear hC5 x0 x1 x2 y0 y1 y2 l0
            have x0 : w5.cell? ⟨b5, 0, none⟩ = some (.int .u64 (m : Int)) := cell_of_obj HX7.out rfl
            have x1 : w5.cell? ⟨b5, 1, none⟩ = some (.int .u64 (a : Int)) := cell_of_obj HX7.out rfl
            have x2 : w5.cell? ⟨b5, 2, none⟩ = some (.string s) := cell_of_obj HX7.out rfl
            have y0 : w5.cell? ⟨b3, 0, none⟩ = some (.int .u64 (p : Int)) := cell_of_obj HY7.out rfl
            have y1 : w5.cell? ⟨b3, 1, none⟩ = some (.int .u64 (a : Int)) := cell_of_obj HY7.out rfl
            have y2 : w5.cell? ⟨b3, 2, none⟩ = some (.string s) := cell_of_obj HY7.out rfl
            have z0 := free_of_obj 0 HY7.out
            have z1 := free_of_obj 1 HY7.out
            have z2 := free_of_obj 2 HY7.out
            go_upto_region 6 with (fail)
            obtain ⟨W6, h6, hx6, ho6, hg6⟩ := store_acc HY7.out m a s
            rw [← h6]
            clear h6 x0 x1 x2 y0 y1 y2 z0 z1 z2
            have HX8 := Lib.hid hx6
            have HG8 := Lib.hid (hg6 _ HG7.out HLB.out)
            clear hx6 ho6 hg6
            go_wp2_with fail
            go_roundw
            case rel => exact ⟨k + 1, m, a, s, by rw [← HN.out]; exact hlt, by go_num, HF6.out.1, HF6.out.2, HX8.out, HG8.out, HLB.out⟩
            case measure => simp [intOf]; omega
        · go_upto_region 9 with (fail)
          have HCC : Hid (Calls Try.prog 13 #[acv p a s, .int .u64 (m : Int), .string ⟨#[118]⟩] wc.drew fun e w' => ∃ v, e = .returned v ∧ v = .tuple #[acv p2 a2 s2, .bool ok2] ∧ Gr wc.drew w') := Lib.hid ((HAC.out wc.drew).mono fun e w' h => ⟨_, h.1, rfl, h.2⟩)
          clear hpar HE HAC
          go_cut [6] (fun s6 wx => s6 = .bool ok2 ∧ Hid (wx.heap[b5]? = some (.cells (accs p2 a2 s2) 24 (0, 0)) ∧ wx.heap[b3]? = some (.cells (accs p a s) 24 (0, 0)) ∧ Gr w wx))
          case first =>
            have hob := gr_obj' (Gr.refl wc).drew HY.out
            have d0 : wc.drew.cell? ⟨b3, 0, none⟩ = some (.int .u64 (p : Int)) := cell_of_obj hob rfl
            have d1 : wc.drew.cell? ⟨b3, 1, none⟩ = some (.int .u64 (a : Int)) := cell_of_obj hob rfl
            have d2 : wc.drew.cell? ⟨b3, 2, none⟩ = some (.string s) := cell_of_obj hob rfl
            have d3 := (Gr.refl wc).drew.cell HMC.out
            clear hob
            go_region_law
              (refine vstep_call rfl 13 [.tmp 28, .tmp 32, .const (.string ⟨#[118]⟩)] _ rfl [acv p a s, .int .u64 (m : Int), .string ⟨#[118]⟩] rfl (cf_accept _) HCC.out ?_
               intro v5 w2 h5
               obtain ⟨rfl, g2⟩ := h5
               have HX2 := Lib.hid (gr_obj' ((Gr.refl wc).drew.trans g2) HX.out)
               have HY2 := Lib.hid (gr_obj' ((Gr.refl wc).drew.trans g2) HY.out)
               have HG2 := Lib.hid (HGC.out.trans ((Gr.refl wc).drew.trans g2))
               have x0 : w2.cell? ⟨b5, 0, none⟩ = some (.int .u64 (q : Int)) := cell_of_obj HX2.out rfl
               have x1 : w2.cell? ⟨b5, 1, none⟩ = some (.int .u64 (a : Int)) := cell_of_obj HX2.out rfl
               have x2 : w2.cell? ⟨b5, 2, none⟩ = some (.string s) := cell_of_obj HX2.out rfl
               have z0 := free_of_obj 0 HX2.out
               have z1 := free_of_obj 1 HX2.out
               have z2 := free_of_obj 2 HX2.out
               clear g2)
            all_goals
              clear d0 d1 d2 d3 HCC
              go_wp2
              go_meet
              obtain ⟨W4, h4, hx4, ho4, hg4⟩ := store_acc HX2.out p2 a2 s2
              exact ⟨rfl, Lib.hid (by rw [← h4]; exact ⟨hx4, ho4 _ _ (Nat.ne_of_lt HB35.out) HY2.out, hg4 _ HG2.out HB5.out⟩)⟩
          case rest =>
          obtain ⟨rfl, HCT⟩ := hcut
          clear HX HY HMC HGC HCC
          have HX4 := Lib.hid HCT.out.1
          have HY4 := Lib.hid HCT.out.2.1
          have HG4 := Lib.hid HCT.out.2.2
          have HM4 := Lib.hid (HG4.out.cell HM.out)
          clear HCT
          go_upto_region 10 with (fail)
          rcases (by cases ok2 <;> simp : ok2 = false ∨ ok2 = true) with hok | hok
          · have HF6 : Hid (a ≤ p ∧ s.size ≤ 1) := Lib.hid ⟨HAP.out, HS.out⟩
            have HX6 : Hid (wc.heap[b5]? = some (.cells (accs p a s) 24 (0, 0))) := Lib.hid (by
              have e := HO2.out.2.1 hok
              have h := HX4.out
              rw [e.1, e.2.1, e.2.2] at h
              exact h)
            rw [hok]
            clear hok HX4 HO2
            have x0 : wc.cell? ⟨b5, 0, none⟩ = some (.int .u64 (p : Int)) := cell_of_obj HX6.out rfl
            have x1 : wc.cell? ⟨b5, 1, none⟩ = some (.int .u64 (a : Int)) := cell_of_obj HX6.out rfl
            have x2 : wc.cell? ⟨b5, 2, none⟩ = some (.string s) := cell_of_obj HX6.out rfl
            have y0 : wc.cell? ⟨b3, 0, none⟩ = some (.int .u64 (p : Int)) := cell_of_obj HY4.out rfl
            have y1 : wc.cell? ⟨b3, 1, none⟩ = some (.int .u64 (a : Int)) := cell_of_obj HY4.out rfl
            have y2 : wc.cell? ⟨b3, 2, none⟩ = some (.string s) := cell_of_obj HY4.out rfl
            have l0 := HM4.out
            have g1 : decide (p < a) = false := decide_eq_false (by have := HAP.out; omega)
            have he := fun w => equal_acc p a s w
            refine qRegion (fun w' => w'.cell? ⟨b5, 0, none⟩ = some (.int .u64 (p : Int)) ∧ w'.cell? ⟨b5, 1, none⟩ = some (.int .u64 (a : Int)) ∧ w'.cell? ⟨b5, 2, none⟩ = some (.string s) ∧ w'.cell? ⟨b3, 0, none⟩ = some (.int .u64 (p : Int)) ∧ w'.cell? ⟨b3, 1, none⟩ = some (.int .u64 (a : Int)) ∧ w'.cell? ⟨b3, 2, none⟩ = some (.string s) ∧ w'.cell? ⟨b, off + k, none⟩ = some (.int .u64 (m : Int)) ∧ Gr wc w') (by kernel_rfl) (by kernel_rfl) ⟨(Gr.refl _).drew.cell x0, (Gr.refl _).drew.cell x1, (Gr.refl _).drew.cell x2, (Gr.refl _).drew.cell y0, (Gr.refl _).drew.cell y1, (Gr.refl _).drew.cell y2, (Gr.refl _).drew.cell l0, (Gr.refl _).drew⟩ ?_
            iterate 24
              refine qTake (by kernel_rfl) ?_
              apply Exists.intro
              refine ⟨fun wq hq => ?_, ?_⟩
              · go_light
                obtain ⟨e0, e1, e2, e3, e4, e5, e6, e7⟩ := hq
                go_simp
                try with_reducible rfl
                done
              try simp only [Act.put, List.setIfInBounds_toArray, List.set_cons_zero, List.set_cons_succ]
            iterate 7
              refine qSkip (by kernel_rfl) ?_
              try simp only [Act.put, List.setIfInBounds_toArray, List.set_cons_zero, List.set_cons_succ]
            iterate 2
              refine qTake (by kernel_rfl) ?_
              apply Exists.intro
              refine ⟨fun wq hq => ?_, ?_⟩
              · go_light
                obtain ⟨e0, e1, e2, e3, e4, e5, e6, e7⟩ := hq
                go_simp
                try with_reducible rfl
                done
              try simp only [Act.put, List.setIfInBounds_toArray, List.set_cons_zero, List.set_cons_succ]
            refine qNil ?_
            intro w5 hC5
            have HX7 := Lib.hid (gr_obj' hC5.2.2.2.2.2.2.2 HX6.out)
            have HY7 := Lib.hid (gr_obj' hC5.2.2.2.2.2.2.2 HY4.out)
            have HG7 := Lib.hid (HG4.out.trans hC5.2.2.2.2.2.2.2)
            clear hC5 x0 x1 x2 y0 y1 y2 l0
            have x0 : w5.cell? ⟨b5, 0, none⟩ = some (.int .u64 (p : Int)) := cell_of_obj HX7.out rfl
            have x1 : w5.cell? ⟨b5, 1, none⟩ = some (.int .u64 (a : Int)) := cell_of_obj HX7.out rfl
            have x2 : w5.cell? ⟨b5, 2, none⟩ = some (.string s) := cell_of_obj HX7.out rfl
            have y0 : w5.cell? ⟨b3, 0, none⟩ = some (.int .u64 (p : Int)) := cell_of_obj HY7.out rfl
            have y1 : w5.cell? ⟨b3, 1, none⟩ = some (.int .u64 (a : Int)) := cell_of_obj HY7.out rfl
            have y2 : w5.cell? ⟨b3, 2, none⟩ = some (.string s) := cell_of_obj HY7.out rfl
            have z0 := free_of_obj 0 HY7.out
            have z1 := free_of_obj 1 HY7.out
            have z2 := free_of_obj 2 HY7.out
            go_upto_region 6 with (fail)
            obtain ⟨W6, h6, hx6, ho6, hg6⟩ := store_acc HY7.out p a s
            rw [← h6]
            clear h6 x0 x1 x2 y0 y1 y2 z0 z1 z2
            have HX8 := Lib.hid hx6
            have HG8 := Lib.hid (hg6 _ HG7.out HLB.out)
            clear hx6 ho6 hg6
            go_wp2_with fail
            go_roundw
            case rel => exact ⟨k + 1, p, a, s, by rw [← HN.out]; exact hlt, by go_num, HF6.out.1, HF6.out.2, HX8.out, HG8.out, HLB.out⟩
            case measure => simp [intOf]; omega
          · have HF6 : Hid (a2 ≤ m ∧ s2.size ≤ 1) := Lib.hid (by have e := HO2.out.1 hok; have h := HO2.out.2.2; rw [e] at h; exact ⟨h.2.1, h.2.2⟩)
            have HPM : Hid (p ≤ m) := Lib.hid (by have e := HO2.out.1 hok; have h := HO2.out.2.2.1; rw [e] at h; exact h)
            have HX6 : Hid (wc.heap[b5]? = some (.cells (accs m a2 s2) 24 (0, 0))) := Lib.hid (by
              have e := HO2.out.1 hok
              have h := HX4.out
              rw [e] at h
              exact h)
            rw [hok]
            clear hok HX4 HO2
            have x0 : wc.cell? ⟨b5, 0, none⟩ = some (.int .u64 (m : Int)) := cell_of_obj HX6.out rfl
            have x1 : wc.cell? ⟨b5, 1, none⟩ = some (.int .u64 (a2 : Int)) := cell_of_obj HX6.out rfl
            have x2 : wc.cell? ⟨b5, 2, none⟩ = some (.string s2) := cell_of_obj HX6.out rfl
            have y0 : wc.cell? ⟨b3, 0, none⟩ = some (.int .u64 (p : Int)) := cell_of_obj HY4.out rfl
            have y1 : wc.cell? ⟨b3, 1, none⟩ = some (.int .u64 (a : Int)) := cell_of_obj HY4.out rfl
            have y2 : wc.cell? ⟨b3, 2, none⟩ = some (.string s) := cell_of_obj HY4.out rfl
            have l0 := HM4.out
            have g1 : decide (m < a2) = false := decide_eq_false (by have := HF6.out.1; omega)
            have g2 : decide (m < p) = false := decide_eq_false (by have := HPM.out; omega)
            refine qRegion (fun w' => w'.cell? ⟨b5, 0, none⟩ = some (.int .u64 (m : Int)) ∧ w'.cell? ⟨b5, 1, none⟩ = some (.int .u64 (a2 : Int)) ∧ w'.cell? ⟨b5, 2, none⟩ = some (.string s2) ∧ w'.cell? ⟨b3, 0, none⟩ = some (.int .u64 (p : Int)) ∧ w'.cell? ⟨b3, 1, none⟩ = some (.int .u64 (a : Int)) ∧ w'.cell? ⟨b3, 2, none⟩ = some (.string s) ∧ w'.cell? ⟨b, off + k, none⟩ = some (.int .u64 (m : Int)) ∧ Gr wc w') (by kernel_rfl) (by kernel_rfl) ⟨(Gr.refl _).drew.cell x0, (Gr.refl _).drew.cell x1, (Gr.refl _).drew.cell x2, (Gr.refl _).drew.cell y0, (Gr.refl _).drew.cell y1, (Gr.refl _).drew.cell y2, (Gr.refl _).drew.cell l0, (Gr.refl _).drew⟩ ?_
            iterate 16
              refine qTake (by kernel_rfl) ?_
              apply Exists.intro
              refine ⟨fun wq hq => ?_, ?_⟩
              · go_light
                obtain ⟨e0, e1, e2, e3, e4, e5, e6, e7⟩ := hq
                go_simp
                try with_reducible rfl
                done
              try simp only [Act.put, List.setIfInBounds_toArray, List.set_cons_zero, List.set_cons_succ]
            iterate 3
              refine qSkip (by kernel_rfl) ?_
              try simp only [Act.put, List.setIfInBounds_toArray, List.set_cons_zero, List.set_cons_succ]
            iterate 14
              refine qTake (by kernel_rfl) ?_
              apply Exists.intro
              refine ⟨fun wq hq => ?_, ?_⟩
              · go_light
                obtain ⟨e0, e1, e2, e3, e4, e5, e6, e7⟩ := hq
                go_simp
                try with_reducible rfl
                done
              try simp only [Act.put, List.setIfInBounds_toArray, List.set_cons_zero, List.set_cons_succ]
            refine qNil ?_
            intro w5 hC5
            have HX7 := Lib.hid (gr_obj' hC5.2.2.2.2.2.2.2 HX6.out)
            have HY7 := Lib.hid (gr_obj' hC5.2.2.2.2.2.2.2 HY4.out)
            have HG7 := Lib.hid (HG4.out.trans hC5.2.2.2.2.2.2.2)
            clear hC5 x0 x1 x2 y0 y1 y2 l0
            have x0 : w5.cell? ⟨b5, 0, none⟩ = some (.int .u64 (m : Int)) := cell_of_obj HX7.out rfl
            have x1 : w5.cell? ⟨b5, 1, none⟩ = some (.int .u64 (a2 : Int)) := cell_of_obj HX7.out rfl
            have x2 : w5.cell? ⟨b5, 2, none⟩ = some (.string s2) := cell_of_obj HX7.out rfl
            have y0 : w5.cell? ⟨b3, 0, none⟩ = some (.int .u64 (p : Int)) := cell_of_obj HY7.out rfl
            have y1 : w5.cell? ⟨b3, 1, none⟩ = some (.int .u64 (a : Int)) := cell_of_obj HY7.out rfl
            have y2 : w5.cell? ⟨b3, 2, none⟩ = some (.string s) := cell_of_obj HY7.out rfl
            have z0 := free_of_obj 0 HY7.out
            have z1 := free_of_obj 1 HY7.out
            have z2 := free_of_obj 2 HY7.out
            go_upto_region 6 with (fail)
            obtain ⟨W6, h6, hx6, ho6, hg6⟩ := store_acc HY7.out m a2 s2
            rw [← h6]
            clear h6 x0 x1 x2 y0 y1 y2 z0 z1 z2
            have HX8 := Lib.hid hx6
            have HG8 := Lib.hid (hg6 _ HG7.out HLB.out)
            clear hx6 ho6 hg6
            go_wp2_with fail
            go_roundw
            case rel => exact ⟨k + 1, m, a2, s2, by rw [← HN.out]; exact hlt, by go_num, HF6.out.1, HF6.out.2, HX8.out, HG8.out, HLB.out⟩
            case measure => simp [intOf]; omega
    · obtain rfl : k = n := by omega
      go_wp2_with fail
      go_ret
      exact ⟨rfl, HGR.out⟩
end Go.Proofs.Ytboonfbbnidmbaa
