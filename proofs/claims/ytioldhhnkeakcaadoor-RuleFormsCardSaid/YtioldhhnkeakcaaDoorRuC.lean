/- Walks over package rule: Text, Whole, within, namesOf. -/
import Derived.Test.YtioldhhnkeakcaaDoorLibR
import Derived.Test.YtioldhhnkeakcaaDoorRuB
import Derived.Test.YtioldhhnkeakcaaDoorQuiet
import Derived.Lib.SmallJoins
import Derived.Deep.Light
namespace Go.Proofs.YtioldhhnkeakcaaDoor
open Go.RowKit Go.Joins
set_option linter.unusedSimpArgs false
set_option linter.unusedVariables false

/-- The lines of the kinds, as the program writes them. -/
def lineK : List ByteArray := [⟨#[99, 111, 117, 110, 116, 101, 114, 32, 75, 69, 89, 32, 83, 84, 65, 82, 84]⟩, ⟨#[98, 111, 117, 110, 100, 32, 75, 69, 89, 32, 77, 73, 78, 32, 83, 84, 65, 82, 84]⟩, ⟨#[115, 101, 116, 32, 75, 69, 89]⟩, ⟨#[102, 105, 114, 109, 32, 75, 69, 89]⟩, ⟨#[108, 97, 115, 116, 32, 75, 69, 89]⟩, ⟨#[109, 117, 108, 116, 105, 32, 75, 69, 89]⟩, ⟨#[102, 108, 97, 103, 32, 75, 69, 89, 32, 83, 84, 65, 82, 84]⟩, ⟨#[105, 100, 115, 32, 75, 69, 89]⟩, ⟨#[114, 101, 102, 32, 75, 69, 89, 32, 79, 84, 72, 69, 82]⟩, ⟨#[101, 105, 116, 104, 101, 114, 32, 75, 69, 89, 32, 79, 84, 72, 69, 82]⟩]
def Lines (w : World) : Prop := ∀ k, k < 10 → w.cell? ⟨0, k, none⟩ = some (.string (lineK.getD k ⟨#[]⟩))
theorem Lines.gr {w w' : World} (h : Lines w) (g : Gr w w') : Lines w' := fun k hk => g.cell (h k hk)
/-- What the library's and the program's tables hold. -/
structure Laid (w : World) : Prop where
  pow : Lib.TabIs Tryd.prog w "internal/strconv.uint64pow10" .u64 Lib.pow10Tab
  sents : Sents2 w
  lines : Lines w
theorem gPowR : Tryd.prog.globalNamed "internal/strconv.uint64pow10" = some 3 := by kernel_rfl
theorem gSynR : Tryd.prog.globalNamed "strconv.ErrSyntax" = some 1 := by kernel_rfl
theorem gRanR : Tryd.prog.globalNamed "strconv.ErrRange" = some 2 := by kernel_rfl
theorem Laid.gr {w w' : World} (h : Laid w) (g : Gr w w') : Laid w' := by
  obtain ⟨h1, ⟨⟨a, b, h2⟩, ⟨c, d, h3⟩⟩, h4⟩ := h
  exact ⟨tab_stays gPowR h1 g (Nat.le_refl _), ⟨⟨a, b, var_stays gSynR h2 g (Nat.le_refl _)⟩, ⟨c, d, var_stays gRanR h3 g (Nat.le_refl _)⟩⟩, h4.gr g⟩

theorem rutext_any (n : Int) (h0 : -9223372036854775808 ≤ n) (h1 : n ≤ 9223372036854775807) (w : World) (hp : Laid w) :
    Calls Tryd.prog 11 #[.int .i64 n] w fun e w' => e = .returned (.string ⟨(Lib.itoa n).toArray⟩) ∧ Gr w w' := by
  have H := Lib.hid (fun w hp => formatInt_any n h0 h1 w hp)
  have HP := Lib.hid hp.pow
  clear hp
  go_enter Tryd.func11, Tryd.ntmps11
  go_wp2_with fail
  refine (H.out _ HP.out).mono ?_
  rintro e w1 ⟨rfl, g⟩
  have HG := Lib.hid g
  clear g
  go_wp2_with fail
  go_ret
  exact ⟨rfl, HG.out⟩
theorem within_any (n : Int) (w : World) :
    Calls Tryd.prog 27 #[.int .i64 n] w fun e w' => e = .returned (.bool (inAB n)) ∧ Gr w w' := by
  by_cases h1 : -1099511627776 ≤ n
  · have d1 : decide (-1099511627776 ≤ n) = true := decide_eq_true h1
    by_cases h2 : n ≤ 1099511627776
    · have d2 : decide (n ≤ 1099511627776) = true := decide_eq_true h2
      have HB : Hid (inAB n = true) := Lib.hid (by unfold inAB; rw [d1, d2]; rfl)
      go_enter Tryd.func27, Tryd.ntmps27
      go_wp2_with fail
      go_ret
      exact ⟨by rw [HB.out]; rfl, Gr.refl _⟩
    · have d2 : decide (n ≤ 1099511627776) = false := decide_eq_false h2
      have HB : Hid (inAB n = false) := Lib.hid (by unfold inAB; rw [d1, d2]; rfl)
      go_enter Tryd.func27, Tryd.ntmps27
      go_wp2_with fail
      go_ret
      exact ⟨by rw [HB.out]; rfl, Gr.refl _⟩
  · have d1 : decide (-1099511627776 ≤ n) = false := decide_eq_false h1
    have HB : Hid (inAB n = false) := Lib.hid (by unfold inAB; rw [d1]; rfl)
    go_enter Tryd.func27, Tryd.ntmps27
    go_wp2_with fail
    go_ret
    exact ⟨by rw [HB.out]; rfl, Gr.refl _⟩
theorem size_arrR (l : List UInt8) : (⟨l.toArray⟩ : ByteArray).size = l.length := by simp [ByteArray.size]
theorem min_len : (⟨(Lib.itoa (-1099511627776)).toArray⟩ : ByteArray).size = 14 := by
  rw [size_arrR, PV.itoa_minus (by decide), List.length_cons, Lib.decDigits_length, Lib.nDigits_unique 12 _ (by decide) (by decide)]
def wholeVal (o : Option Int) : Value := .tuple #[.int .i64 (o.getD 0), .bool o.isSome]
theorem parse_range {l : List UInt8} {v : Int} (h : Lib.parseIntB 64 l = .ok v) : -9223372036854775808 ≤ v ∧ v ≤ 9223372036854775807 := by
  have e : (2 : Nat) ^ (64 - 1) = 9223372036854775808 := by decide
  cases l with
  | nil => cases h
  | cons c r =>
    by_cases h43 : c.toNat = 43
    · obtain rfl : c = 43 := UInt8.toNat_inj.1 h43
      rw [Lib.parseIntB_plus, e] at h
      cases hq : Lib.parseUintB 64 r <;> rw [hq] at h <;> simp only [Lib.signlessC] at h
      · split at h
        · cases h
        · injection h with h; omega
      · cases h
      · cases h
    by_cases h45 : c.toNat = 45
    · obtain rfl : c = 45 := UInt8.toNat_inj.1 h45
      rw [Lib.parseIntB_minus, e] at h
      cases hq : Lib.parseUintB 64 r <;> rw [hq] at h <;> simp only [Lib.signedC] at h
      · split at h
        · cases h
        · injection h with h; omega
      · cases h
      · cases h
    rw [Lib.parseIntB_plain _ _ _ h43 h45, e] at h
    cases hq : Lib.parseUintB 64 (c :: r) <;> rw [hq] at h <;> simp only [Lib.signlessC] at h
    · split at h
      · cases h
      · injection h with h; omega
    · cases h
    · cases h
set_option maxRecDepth 100000 in
set_option maxHeartbeats 2000000 in
theorem whole_any (s : ByteArray) (hs : s.size ≤ 281474976710656) (w : World) (hp : Laid w) :
    Calls Tryd.prog 10 #[.string s] w fun e w' => e = .returned (wholeVal (PV.wholeL s.data.toList)) ∧ Gr w w' := by
  have HM := Lib.hid (fun w hp => rutext_any (-1099511627776) (by decide) (by decide) w hp)
  have HP := Lib.hid hp
  clear hp
  by_cases hlong : 14 < s.size
  · have HN := Lib.hid (PV.wholeL_long (l := s.data.toList) (by rw [Array.length_toList]; exact hlong))
    have hml := min_len
    go_enter Tryd.func10, Tryd.ntmps10
    go_wp2_with fail
    refine (HM.out _ HP.out).mono ?_
    rintro e w1 ⟨rfl, g⟩
    have HG := Lib.hid g
    clear g
    go_wp2_with fail
    go_ret2
    exact ⟨by rw [HN.out]; rfl, HG.out⟩
  · have hml := min_len
    by_cases hok : ∃ v, Lib.parseIntB 64 s.data.toList = .ok v
    · obtain ⟨v, hv⟩ := hok
      obtain ⟨r0, r1⟩ := parse_range hv
      have HI := Lib.hid (fun w => parseInt_ok s hs v hv w)
      have HT := Lib.hid (fun w hp => rutext_any v r0 r1 w hp)
      have HW := Lib.hid (fun w => within_any v w)
      obtain ⟨q, hq⟩ : ∃ q, q = inAB v := ⟨_, rfl⟩
      obtain ⟨t, ht⟩ : ∃ t : ByteArray, t = ⟨(Lib.itoa v).toArray⟩ := ⟨_, rfl⟩
      obtain ⟨z, hz⟩ : ∃ z, z = eqS t s := ⟨_, rfl⟩
      have hze : (t.toList == s.toList) = z := hz.symm
      have hze2 : (t.toList != s.toList) = !z := by rw [bne, hze]
      have HR : Hid (PV.wholeL s.data.toList = if q && z then some v else none) := Lib.hid (by
        by_cases c : inAB v = true ∧ eqS t s = true
        · rw [hq, hz, c.1, c.2]
          have e := eqS_iff.1 c.2
          have := PV.wholeL_itoa (inAB_iff.1 c.1)
          rw [← e, ht]
          exact this
        · have : (q && z) = false := by
            rw [hq, hz]
            cases h1 : inAB v <;> cases h2 : eqS t s <;> first | rfl | exact absurd ⟨h1, h2⟩ c
          rw [this]
          refine PV.wholeL_ok hv fun k => c ⟨inAB_iff.2 k.1, ?_⟩
          rw [eqS_iff, ht, k.2])
      rw [← hq] at HW
      rw [← ht] at HT
      clear hq hz ht hv
      go_enter Tryd.func10, Tryd.ntmps10
      go_wp2_with fail
      refine (HM.out _ HP.out).mono ?_
      rintro e w1 ⟨rfl, g⟩
      have HG := Lib.hid g
      have HP1 := Lib.hid (HP.out.gr g)
      clear g
      go_wp2_with fail
      refine (HI.out _).mono ?_
      rintro e w2 ⟨rfl, g⟩
      have HG2 := Lib.hid (HG.out.trans g)
      have HP2 := Lib.hid (HP1.out.gr g)
      clear g
      rcases q with _ | _
      · go_wp2_with fail
        refine (HW.out _).mono ?_
        rintro e w3 ⟨rfl, g⟩
        have HG3 := Lib.hid (HG2.out.trans g)
        clear g
        go_wp2_with fail
        go_ret2
        exact ⟨by rw [HR.out]; rfl, HG3.out⟩
      · go_wp2_with fail
        refine (HW.out _).mono ?_
        rintro e w3 ⟨rfl, g⟩
        have HG3 := Lib.hid (HG2.out.trans g)
        have HP3 := Lib.hid (HP2.out.gr g)
        clear g
        go_wp2_with fail
        refine (HT.out _ HP3.out).mono ?_
        rintro e w4 ⟨rfl, g⟩
        have HG4 := Lib.hid (HG3.out.trans g)
        clear g
        rcases z with _ | _
        · go_wp2_with fail
          go_ret2
          exact ⟨by rw [HR.out]; rfl, HG4.out⟩
        · go_wp2_with fail
          go_ret2
          exact ⟨by rw [HR.out]; rfl, HG4.out⟩
    · have HN := Lib.hid (PV.wholeL_bad (l := s.data.toList) (fun v hv => hok ⟨v, hv⟩))
      have HI := Lib.hid (fun w hS => parseInt_bad s hs (fun v hv => hok ⟨v, hv⟩) w hS)
      go_enter Tryd.func10, Tryd.ntmps10
      go_wp2_with fail
      refine (HM.out _ HP.out).mono ?_
      rintro e w1 ⟨rfl, g⟩
      have HG := Lib.hid g
      have HP1 := Lib.hid (HP.out.gr g)
      clear g
      go_wp2_with fail
      refine (HI.out _ HP1.out.sents).mono ?_
      rintro e w2 ⟨n, N, rfl, g⟩
      have HG2 := Lib.hid (HG.out.trans g)
      clear g
      go_wp2_with fail
      go_ret2
      exact ⟨by rw [HN.out]; rfl, HG2.out⟩
end Go.Proofs.YtioldhhnkeakcaaDoor
