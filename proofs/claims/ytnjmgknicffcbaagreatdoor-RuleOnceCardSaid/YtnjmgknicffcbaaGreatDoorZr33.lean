/- Walks over package rule: Text, Whole, within, namesOf. What the cards need: the listed tables and variables that package rule reads, as they are laid. Walks over package rule: namesOf, kindOf, where they find. -/
import Derived.Test.YtnjmgknicffcbaaGreatDoorZr31
import Derived.Test.YtnjmgknicffcbaaGreatDoorZr32
import Derived.Test.YtnjmgknicffcbaaGreatDoorZr02
import Derived.Lib.SmallJoins
import Derived.Deep.Light
import Derived.Lay
import Derived.MakeChecks
import Derived.Lib.LaidU8
import Derived.Lib.ItoaMem
import Derived.OpenShut
import Derived.Stop.LaidErr
import Derived.Test.YtnjmgknicffcbaaGreatDoorZr16
namespace Go.Proofs.YtnjmgknicffcbaaGreatDoor
open Go.RowKit Go.Joins
set_option linter.unusedSimpArgs false
set_option linter.unusedVariables false

/-- The lines of the kinds, as the program writes them. -/
def lineK : List ByteArray := [⟨#[99, 111, 117, 110, 116, 101, 114, 32, 75, 69, 89, 32, 83, 84, 65, 82, 84]⟩, ⟨#[98, 111, 117, 110, 100, 32, 75, 69, 89, 32, 77, 73, 78, 32, 83, 84, 65, 82, 84]⟩, ⟨#[115, 101, 116, 32, 75, 69, 89]⟩, ⟨#[102, 105, 114, 109, 32, 75, 69, 89]⟩, ⟨#[108, 97, 115, 116, 32, 75, 69, 89]⟩, ⟨#[109, 117, 108, 116, 105, 32, 75, 69, 89]⟩, ⟨#[102, 108, 97, 103, 32, 75, 69, 89, 32, 83, 84, 65, 82, 84]⟩, ⟨#[105, 100, 115, 32, 75, 69, 89]⟩, ⟨#[114, 101, 102, 32, 75, 69, 89, 32, 79, 84, 72, 69, 82]⟩, ⟨#[101, 105, 116, 104, 101, 114, 32, 75, 69, 89, 32, 79, 84, 72, 69, 82]⟩]
def Lines (w : World) : Prop := ∀ k, k < 10 → w.cell? ⟨0, k, none⟩ = some (.string (lineK.getD k ⟨#[]⟩))
theorem Lines.gr {w w' : World} (h : Lines w) (g : Gr w w') : Lines w' := fun k hk => g.cell (h k hk)
/-- What the library's and the program's tables hold. -/
structure Laid (w : World) : Prop where
  pow : Lib.TabIs Tryz.prog w "internal/strconv.uint64pow10" .u64 Lib.pow10Tab
  sents : Sents2 w
  lines : Lines w
theorem gPowR : Tryz.prog.globalNamed "internal/strconv.uint64pow10" = some 1 := by kernel_rfl
theorem gSynR : Tryz.prog.globalNamed "strconv.ErrSyntax" = some 7 := by kernel_rfl
theorem gRanR : Tryz.prog.globalNamed "strconv.ErrRange" = some 8 := by kernel_rfl
theorem Laid.gr {w w' : World} (h : Laid w) (g : Gr w w') : Laid w' := by
  obtain ⟨h1, ⟨⟨a, b, h2⟩, ⟨c, d, h3⟩⟩, h4⟩ := h
  exact ⟨tab_stays gPowR h1 g (Nat.le_refl _), ⟨⟨a, b, var_stays gSynR h2 g (Nat.le_refl _)⟩, ⟨c, d, var_stays gRanR h3 g (Nat.le_refl _)⟩⟩, h4.gr g⟩

theorem rutext_any (n : Int) (h0 : -9223372036854775808 ≤ n) (h1 : n ≤ 9223372036854775807) (w : World) (hp : Laid w) :
    Calls Tryz.prog 47 #[.int .i64 n] w fun e w' => e = .returned (.string ⟨(Lib.itoa n).toArray⟩) ∧ Gr w w' := by
  have H := Lib.hid (fun w hp => formatInt_any n h0 h1 w hp)
  have HP := Lib.hid hp.pow
  clear hp
  go_enter Tryz.func47, Tryz.ntmps47
  go_wp2_with fail
  refine (H.out _ HP.out).mono ?_
  rintro e w1 ⟨rfl, g⟩
  have HG := Lib.hid g
  clear g
  go_wp2_with fail
  go_ret
  exact ⟨rfl, HG.out⟩
theorem rwithin_any (n : Int) (w : World) :
    Calls Tryz.prog 136 #[.int .i64 n] w fun e w' => e = .returned (.bool (inAB n)) ∧ Gr w w' := by
  by_cases h1 : -1099511627776 ≤ n
  · have d1 : decide (-1099511627776 ≤ n) = true := decide_eq_true h1
    by_cases h2 : n ≤ 1099511627776
    · have d2 : decide (n ≤ 1099511627776) = true := decide_eq_true h2
      have HB : Hid (inAB n = true) := Lib.hid (by unfold inAB; rw [d1, d2]; rfl)
      go_enter Tryz.func136, Tryz.ntmps136
      go_wp2_with fail
      go_ret
      exact ⟨by rw [HB.out]; rfl, Gr.refl _⟩
    · have d2 : decide (n ≤ 1099511627776) = false := decide_eq_false h2
      have HB : Hid (inAB n = false) := Lib.hid (by unfold inAB; rw [d1, d2]; rfl)
      go_enter Tryz.func136, Tryz.ntmps136
      go_wp2_with fail
      go_ret
      exact ⟨by rw [HB.out]; rfl, Gr.refl _⟩
  · have d1 : decide (-1099511627776 ≤ n) = false := decide_eq_false h1
    have HB : Hid (inAB n = false) := Lib.hid (by unfold inAB; rw [d1]; rfl)
    go_enter Tryz.func136, Tryz.ntmps136
    go_wp2_with fail
    go_ret
    exact ⟨by rw [HB.out]; rfl, Gr.refl _⟩
theorem size_arrR (l : List UInt8) : (⟨l.toArray⟩ : ByteArray).size = l.length := by simp [ByteArray.size]
theorem min_len : (⟨(Lib.itoa (-1099511627776)).toArray⟩ : ByteArray).size = 14 := by
  rw [size_arrR, PV.itoa_minus (by decide), List.length_cons, Lib.decDigits_length, Lib.nDigits_unique 12 _ (by decide) (by decide)]
def wholeVal (o : Option Int) : Value := .tuple #[.int .i64 (o.getD 0), .bool o.isSome]
theorem parse_range {l : List UInt8} {v : Int} (h : Lib.parseIntB 64 l = .ok v) : -9223372036854775808 ≤ v ∧ v ≤ 9223372036854775807 := by
  have e : (2 : Nat) ^ (64 - 1) = 9223372036854775808 := by decide
  cases l with
  | nil => cases h
  | cons c r =>
    by_cases h43 : c.toNat = 43
    · obtain rfl : c = 43 := UInt8.toNat_inj.1 h43
      rw [Lib.parseIntB_plus, e] at h
      cases hq : Lib.parseUintB 64 r <;> rw [hq] at h <;> simp only [Lib.signlessC] at h
      · split at h
        · cases h
        · injection h with h; omega
      · cases h
      · cases h
    by_cases h45 : c.toNat = 45
    · obtain rfl : c = 45 := UInt8.toNat_inj.1 h45
      rw [Lib.parseIntB_minus, e] at h
      cases hq : Lib.parseUintB 64 r <;> rw [hq] at h <;> simp only [Lib.signedC] at h
      · split at h
        · cases h
        · injection h with h; omega
      · cases h
      · cases h
    rw [Lib.parseIntB_plain _ _ _ h43 h45, e] at h
    cases hq : Lib.parseUintB 64 (c :: r) <;> rw [hq] at h <;> simp only [Lib.signlessC] at h
    · split at h
      · cases h
      · injection h with h; omega
    · cases h
    · cases h
set_option maxRecDepth 100000 in
set_option maxHeartbeats 2000000 in
theorem whole_any (s : ByteArray) (hs : s.size ≤ 281474976710656) (w : World) (hp : Laid w) :
    Calls Tryz.prog 149 #[.string s] w fun e w' => e = .returned (wholeVal (PV.wholeL s.data.toList)) ∧ Gr w w' := by
  have HM := Lib.hid (fun w hp => rutext_any (-1099511627776) (by decide) (by decide) w hp)
  have HP := Lib.hid hp
  clear hp
  by_cases hlong : 14 < s.size
  · have HN := Lib.hid (PV.wholeL_long (l := s.data.toList) (by rw [Array.length_toList]; exact hlong))
    have hml := min_len
    go_enter Tryz.func149, Tryz.ntmps149
    go_wp2_with fail
    refine (HM.out _ HP.out).mono ?_
    rintro e w1 ⟨rfl, g⟩
    have HG := Lib.hid g
    clear g
    go_wp2_with fail
    go_ret2
    exact ⟨by rw [HN.out]; rfl, HG.out⟩
  · have hml := min_len
    by_cases hok : ∃ v, Lib.parseIntB 64 s.data.toList = .ok v
    · obtain ⟨v, hv⟩ := hok
      obtain ⟨r0, r1⟩ := parse_range hv
      have HI := Lib.hid (fun w => parseInt_ok s hs v hv w)
      have HT := Lib.hid (fun w hp => rutext_any v r0 r1 w hp)
      have HW := Lib.hid (fun w => rwithin_any v w)
      obtain ⟨q, hq⟩ : ∃ q, q = inAB v := ⟨_, rfl⟩
      obtain ⟨t, ht⟩ : ∃ t : ByteArray, t = ⟨(Lib.itoa v).toArray⟩ := ⟨_, rfl⟩
      obtain ⟨z, hz⟩ : ∃ z, z = eqS t s := ⟨_, rfl⟩
      have hze : (t.toList == s.toList) = z := hz.symm
      have hze2 : (t.toList != s.toList) = !z := by rw [bne, hze]
      have HR : Hid (PV.wholeL s.data.toList = if q && z then some v else none) := Lib.hid (by
        by_cases c : inAB v = true ∧ eqS t s = true
        · rw [hq, hz, c.1, c.2]
          have e := eqS_iff.1 c.2
          have := PV.wholeL_itoa (inAB_iff.1 c.1)
          rw [← e, ht]
          exact this
        · have : (q && z) = false := by
            rw [hq, hz]
            cases h1 : inAB v <;> cases h2 : eqS t s <;> first | rfl | exact absurd ⟨h1, h2⟩ c
          rw [this]
          refine PV.wholeL_ok hv fun k => c ⟨inAB_iff.2 k.1, ?_⟩
          rw [eqS_iff, ht, k.2])
      rw [← hq] at HW
      rw [← ht] at HT
      clear hq hz ht hv
      go_enter Tryz.func149, Tryz.ntmps149
      go_wp2_with fail
      refine (HM.out _ HP.out).mono ?_
      rintro e w1 ⟨rfl, g⟩
      have HG := Lib.hid g
      have HP1 := Lib.hid (HP.out.gr g)
      clear g
      go_wp2_with fail
      refine (HI.out _).mono ?_
      rintro e w2 ⟨rfl, g⟩
      have HG2 := Lib.hid (HG.out.trans g)
      have HP2 := Lib.hid (HP1.out.gr g)
      clear g
      rcases q with _ | _
      · go_wp2_with fail
        refine (HW.out _).mono ?_
        rintro e w3 ⟨rfl, g⟩
        have HG3 := Lib.hid (HG2.out.trans g)
        clear g
        go_wp2_with fail
        go_ret2
        exact ⟨by rw [HR.out]; rfl, HG3.out⟩
      · go_wp2_with fail
        refine (HW.out _).mono ?_
        rintro e w3 ⟨rfl, g⟩
        have HG3 := Lib.hid (HG2.out.trans g)
        have HP3 := Lib.hid (HP2.out.gr g)
        clear g
        go_wp2_with fail
        refine (HT.out _ HP3.out).mono ?_
        rintro e w4 ⟨rfl, g⟩
        have HG4 := Lib.hid (HG3.out.trans g)
        clear g
        rcases z with _ | _
        · go_wp2_with fail
          go_ret2
          exact ⟨by rw [HR.out]; rfl, HG4.out⟩
        · go_wp2_with fail
          go_ret2
          exact ⟨by rw [HR.out]; rfl, HG4.out⟩
    · have HN := Lib.hid (PV.wholeL_bad (l := s.data.toList) (fun v hv => hok ⟨v, hv⟩))
      have HI := Lib.hid (fun w hS => parseInt_bad s hs (fun v hv => hok ⟨v, hv⟩) w hS)
      go_enter Tryz.func149, Tryz.ntmps149
      go_wp2_with fail
      refine (HM.out _ HP.out).mono ?_
      rintro e w1 ⟨rfl, g⟩
      have HG := Lib.hid g
      have HP1 := Lib.hid (HP.out.gr g)
      clear g
      go_wp2_with fail
      refine (HI.out _ HP1.out.sents).mono ?_
      rintro e w2 ⟨n, N, rfl, g⟩
      have HG2 := Lib.hid (HG.out.trans g)
      clear g
      go_wp2_with fail
      go_ret2
      exact ⟨by rw [HN.out]; rfl, HG2.out⟩
end Go.Proofs.YtnjmgknicffcbaaGreatDoor
namespace Go.Proofs.YtnjmgknicffcbaaGreatDoor
open Go.ChangeShapes Go.WideShapes Go.RowKit

/-- A listed table of integers, wherever it stands on the list. -/
theorem tabIs_memR {P : Program} {W : World} {l : List (String × DataW Unit)} {name : String} {k : IntKind} {zs : List Int} {g : Nat} {t e : TypeId} {n : Nat}
    (hl : (l.all fun x => x.2.handleName?.isNone) = true) (hg : P.globalNamed name = some g) (hty : (P.globals[g]?).map (·.type) = some t) (ht : P.underlying t = some (.array n e)) (he : P.underlying e = some (.int k)) (hce : P.cellsOf e = 1) (hct : P.cellsOf t = n)
    (h : laidMetH P l W) (hm : (name, Lib.tabData k zs) ∈ l) : Lib.TabIs P W name k zs := by
  rw [MakeChecks.laidMetH_plain _ _ _ hl] at h
  obtain ⟨g', t', cs, fuel, p, hg', ht', hvar, hd⟩ := Lib.laidMet.reads h hm
  obtain rfl := Option.some.inj (hg.symm.trans hg')
  obtain rfl := Option.some.inj (hty.symm.trans ht')
  unfold Lib.TabIs
  rw [hvar, ← Lib.cells_of_tab ht he hce hct hd]
theorem laidMet_atR {P : Program} {W : World} {x : String × DataW Unit} : ∀ {l : List (String × DataW Unit)}, laidMet P l W → x ∈ l → ∃ r, laidMet P (x :: r) W
  | [], _, hm => by cases hm
  | y :: r, h, hm => by
    rcases List.mem_cons.1 hm with e | e
    · subst e; exact ⟨r, h⟩
    · exact laidMet_atR h.tail e
theorem errStarR : "*" ++ "errors.errorString" = "*errors.errorString" := by decide
theorem errRowR (u : TypeId) (h : Tryz.prog.typeName? 3 u = some "*errors.errorString") : u = 269 :=
  typeName_ptr_named (nm := "errors.errorString") (by rw [errStarR]; kernel_rfl) (by kernel_rfl) (by decide) u (by rw [errStarR]; exact h)
theorem errSynTypeR : (Tryz.prog.globals[7]?).map (·.type) = some 105 := by kernel_rfl
theorem errRanTypeR : (Tryz.prog.globals[8]?).map (·.type) = some 105 := by kernel_rfl
theorem cellsErrR : Tryz.prog.cellsOf 271 = 1 := by kernel_rfl
theorem cellsStrR : Tryz.prog.cellsOf 9 = 1 := by kernel_rfl
theorem gPowTypeR : (Tryz.prog.globals[1]?).map (·.type) = some 214 := by kernel_rfl
theorem cellsPowR : Tryz.prog.cellsOf 214 = 20 := by kernel_rfl
theorem cellsU64R : Tryz.prog.cellsOf 26 = 1 := by kernel_rfl
theorem gLinesR : Tryz.prog.globalNamed "levee/rule.lines" = some 0 := by kernel_rfl
theorem gLinesTypeR : (Tryz.prog.globals[0]?).map (·.type) = some 186 := by kernel_rfl
def linesD : DataW Unit := .agg (lineK.map fun s => .lit (.string s.data.toList))
theorem lines_laid {W : World} {l : List (String × DataW Unit)} (hl : (l.all fun x => x.2.handleName?.isNone) = true) (h : laidMetH Tryz.prog l W) (hm : ("levee/rule.lines", linesD) ∈ l) : Lines W := by
  rw [MakeChecks.laidMetH_plain _ _ _ hl] at h
  obtain ⟨g', t', cs, fuel, p, hg', ht', hvar, hd⟩ := Lib.laidMet.reads h hm
  obtain rfl := Option.some.inj (gLinesR.symm.trans hg')
  obtain rfl := Option.some.inj (gLinesTypeR.symm.trans ht')
  intro k hk
  obtain ⟨fuel', d, q, hds, hr⟩ := Lib.array_elem Tryz.underlying186 hd k hk
  rw [cellsStrR] at hr
  have hdk : d = .lit (.string (lineK.getD k ⟨#[]⟩).data.toList) := by
    have hlen : lineK.length = 10 := rfl
    rw [List.getElem?_map, List.getElem?_eq_getElem (by omega)] at hds
    simp only [Option.map_some, Option.some.injEq] at hds
    rw [← hds, List.getD_eq_getElem?_getD, List.getElem?_eq_getElem (by omega)]
    rfl
  obtain ⟨s, e1, e2, _⟩ := DataW.trod_string Tryz.underlying9 hr
  have e3 : d = .lit (.string s.data.toList) := congrArg Prod.fst e2
  rw [hdk] at e3
  injection e3 with e3
  injection e3 with e3
  have hs : s = lineK.getD k ⟨#[]⟩ := ByteArray.ext (Array.toList_inj.1 e3.symm)
  rw [World.var?_cell gLinesR hvar k, ← hs, ← Array.getElem?_toList]
  have e4 : cs.toList[k]? = ((cs.toList.drop (k * 1)).take 1)[0]? := by
    rw [List.getElem?_take, if_pos (by decide), List.getElem?_drop, Nat.mul_one, Nat.add_zero]
  rw [e4, e1]
  rfl
theorem laid_of {W : World} {l : List (String × DataW Unit)} {ts tr : List UInt8} (hl : (l.all fun x => x.2.handleName?.isNone) = true) (h : laidMetH Tryz.prog l W)
    (hp : ("internal/strconv.uint64pow10", Lib.tabData .u64 Lib.pow10Tab) ∈ l)
    (hs : ("strconv.ErrSyntax", .iface "*errors.errorString" (.ptr (.agg [.lit (.string ts)]))) ∈ l) (hr : ("strconv.ErrRange", .iface "*errors.errorString" (.ptr (.agg [.lit (.string tr)]))) ∈ l)
    (hn : ("levee/rule.lines", linesD) ∈ l) : Laid W := by
  refine ⟨tabIs_memR hl gPowR gPowTypeR Tryz.underlying214 Tryz.underlying26 cellsU64R cellsPowR h hp, ?_, lines_laid hl h hn⟩
  rw [MakeChecks.laidMetH_plain _ _ _ hl] at h
  obtain ⟨r1, h1⟩ := laidMet_atR h hs
  obtain ⟨r2, h2⟩ := laidMet_atR h hr
  obtain ⟨a1, s1, v1, _, _, _⟩ := laid_sentinel h1 gSynR errSynTypeR Tryz.underlying105 errRowR Tryz.underlying269 Tryz.underlying271 rfl rfl Tryz.underlying9 cellsErrR cellsStrR
  obtain ⟨a2, s2, v2, _, _, _⟩ := laid_sentinel h2 gRanR errRanTypeR Tryz.underlying105 errRowR Tryz.underlying269 Tryz.underlying271 rfl rfl Tryz.underlying9 cellsErrR cellsStrR
  exact ⟨⟨_, _, v1⟩, _, _, v2⟩
end Go.Proofs.YtnjmgknicffcbaaGreatDoor
namespace Go.Proofs.YtnjmgknicffcbaaGreatDoor
open Go.RowKit Go.Joins
set_option linter.unusedSimpArgs false
set_option linter.unusedVariables false

theorem wrap64_le {n : Int} (h0 : -9223372036854775808 ≤ n) (h1 : n ≤ 9223372036854775807) : wrap64 n = n := by unfold wrap64; omega
theorem lines_names : ∀ j, j < 10 → PV.pieces 32 (lineK.getD j ⟨#[]⟩) = names ((j : Int) + 1) := by
  intro j hj
  rw [PV.pieces_eq]
  match j, hj with
  | 0, _ => decide +kernel
  | 1, _ => decide +kernel
  | 2, _ => decide +kernel
  | 3, _ => decide +kernel
  | 4, _ => decide +kernel
  | 5, _ => decide +kernel
  | 6, _ => decide +kernel
  | 7, _ => decide +kernel
  | 8, _ => decide +kernel
  | 9, _ => decide +kernel
theorem lines_size : ∀ j, j < 10 → (lineK.getD j ⟨#[]⟩).size < 4294967281 := by
  intro j hj
  match j, hj with
  | 0, _ => decide
  | 1, _ => decide
  | 2, _ => decide
  | 3, _ => decide
  | 4, _ => decide
  | 5, _ => decide
  | 6, _ => decide
  | 7, _ => decide
  | 8, _ => decide
  | 9, _ => decide
set_option maxRecDepth 100000 in
theorem namesOf_in (j : Nat) (hj : j < 10) (w : World) (hp : Laid w) :
    Calls Tryz.prog 110 #[.int .i64 ((j : Int) + 1)] w fun e w' => e = .returned (.slice (some ⟨w.heap.size, 0, none⟩) (names ((j : Int) + 1)).length (names ((j : Int) + 1)).length) ∧ w' = w.alloc (.cells ((names ((j : Int) + 1)).map Value.string).toArray 9) := by
  have hs := lines_size j hj
  have hn := lines_names j hj
  have hc := hp.lines j hj
  obtain ⟨s, hse⟩ : ∃ s, s = lineK.getD j ⟨#[]⟩ := ⟨_, rfl⟩
  obtain ⟨N, hN⟩ : ∃ N, N = names ((j : Int) + 1) := ⟨_, rfl⟩
  rw [← hse] at hs hn hc
  rw [← hN] at hn ⊢
  have HS := Lib.hid (fun w => split1_any 32 s hs w)
  rw [hn] at HS
  obtain ⟨n, hnl⟩ : ∃ n, n = N.length := ⟨_, rfl⟩
  obtain ⟨cs, hcs⟩ : ∃ cs, cs = (N.map Value.string).toArray := ⟨_, rfl⟩
  rw [← hnl, ← hcs] at HS ⊢
  have t0 : ¬ (j : Int) + 1 < 1 := by omega
  have t1 : ¬ (10 : Int) < (j : Int) + 1 := by omega
  have t2 : wrap64 ((j : Int) + 1 - 1) = (j : Int) := by rw [wrap64_le (by omega) (by omega)]; omega
  have t3 : (0 : Int) ≤ (j : Int) := by omega
  have t4 : (j : Int) < 10 := by omega
  clear hn hse hN hnl hcs hs hp hj
  go_enter Tryz.func110, Tryz.ntmps110
  go_wp2_with fail
  refine (HS.out _).mono ?_
  rintro e w1 ⟨rfl, rfl⟩
  go_wp2_with fail
  go_ret
  exact ⟨rfl, rfl⟩
theorem namesOf_out (k : Int) (hk : ¬ (1 ≤ k ∧ k ≤ 10)) (w : World) :
    Calls Tryz.prog 110 #[.int .i64 k] w fun e w' => e = .returned (.slice none 0 0) ∧ w' = w := by
  by_cases h1 : k < 1
  · go_enter Tryz.func110, Tryz.ntmps110
    go_wp2_with fail
    go_ret
    exact ⟨rfl, rfl⟩
  · have h2 : 10 < k := by omega
    clear hk
    go_enter Tryz.func110, Tryz.ntmps110
    go_wp2_with fail
    go_ret
    exact ⟨rfl, rfl⟩
/-- Strings lie in this block. -/
def SBox (w : World) (b : Nat) (L : List ByteArray) : Prop := w.heap[b]? = some (.cells (L.map Value.string).toArray 9 (0, 0))
theorem SBox.cell {w : World} {b : Nat} {L : List ByteArray} (h : SBox w b L) {j : Nat} (hj : j < L.length) : w.cell? ⟨b, j, none⟩ = some (.string L[j]) :=
  obj_cell h (by simp [hj])
theorem SBox.gr {w w' : World} {b : Nat} {L : List ByteArray} (h : SBox w b L) (g : Gr w w') : SBox w' b L := gr_obj g h
theorem SBox.lt {w : World} {b : Nat} {L : List ByteArray} (h : SBox w b L) : b < w.heap.size := (Array.getElem?_eq_some_iff.1 h).1
theorem SBox.made (w : World) (L : List ByteArray) : SBox (w.alloc (.cells (L.map Value.string).toArray 9)) w.heap.size L := heap_allocR _ _ _
theorem SBox.sv {w : World} {b : Nat} {L : List ByteArray} (h : SBox w b L) (hl : L.length ≤ maxLen) : SV w (.slice (some ⟨b, 0, none⟩) L.length L.length) L :=
  ⟨_, L.length, rfl, Nat.le_refl _, ⟨hl, fun e => by cases e⟩, fun j hj => ⟨b, 0, rfl, by rw [Nat.zero_add]; exact h.cell hj⟩⟩
/-- The names of any kind: nil of none. -/
theorem namesOf_any (k : Int) (w : World) (hp : Laid w) :
    Calls Tryz.prog 110 #[.int .i64 k] w fun e w' => ∃ v, e = .returned v ∧ SV w' v (names k) ∧ Gr w w' := by
  by_cases h : 1 ≤ k ∧ k ≤ 10
  · obtain ⟨j, rfl⟩ : ∃ j : Nat, k = (j : Int) + 1 := ⟨(k - 1).toNat, by omega⟩
    refine (namesOf_in j (by omega) w hp).mono ?_
    rintro e w' ⟨he, rfl⟩
    refine ⟨_, he, (SBox.made w _).sv ?_, (Gr.refl _).alloc _⟩
    have : ∀ k : Int, (names k).length ≤ 4 := fun k => by
      by_cases h : 1 ≤ k ∧ k ≤ 10
      · rcases k_cases h with rfl | rfl | rfl | rfl | rfl | rfl | rfl | rfl | rfl | rfl <;> decide
      · rw [names_out h]; decide
    have := this ((j : Int) + 1)
    unfold maxLen; omega
  · refine (namesOf_out k h w).mono ?_
    rintro e w' ⟨he, rfl⟩
    exact ⟨_, he, by rw [names_out h]; exact SV.nil _, Gr.refl _⟩
theorem heads_inj : ∀ i : Nat, i < 10 → ∀ j : Nat, j < 10 → (names ((i : Int) + 1)).headD ⟨#[]⟩ = (names ((j : Int) + 1)).headD ⟨#[]⟩ → i = j := by decide +kernel
theorem names_pos (j : Nat) (hj : j < 10) : 0 < (names ((j : Int) + 1)).length := List.length_pos_iff.2 (names_in (by omega))
theorem head_getR {L : List ByteArray} (h : 0 < L.length) : L[0] = L.headD ⟨#[]⟩ := by
  cases L with
  | nil => exact absurd h (Nat.not_lt_zero _)
  | cons a r => rfl
set_option maxRecDepth 100000 in
set_option maxHeartbeats 1000000 in
theorem kindOf_in (q : Nat) (hq : q < 10) (w : World) (hp : Laid w) :
    Calls Tryz.prog 112 #[.string ((names ((q : Int) + 1)).headD ⟨#[]⟩)] w fun e w' => e = .returned (.int .i64 ((q : Int) + 1)) ∧ Gr w w' := by
  obtain ⟨x, hx⟩ : ∃ x, x = (names ((q : Int) + 1)).headD ⟨#[]⟩ := ⟨_, rfl⟩
  rw [← hx]
  have HX := Lib.hid hx
  have HP := Lib.hid hp
  clear hx hp
  go_enter Tryz.func112, Tryz.ntmps112
  go_wp2_with fail
  go_loopw [3] (fun i wr => ∃ j : Nat, j ≤ q ∧ i = .int .i64 ((j : Int) + 1) ∧ Gr w wr) (fun i _ => 12 - (intOf i).toNat)
  case atStart => exact ⟨0, Nat.zero_le _, rfl, Gr.refl _⟩
  case round =>
    obtain ⟨j, hj, rfl, hgr⟩ := hrel
    have HG := Lib.hid hgr
    have hj10 : j < 10 := by omega
    have HN := Lib.hid (namesOf_in j hj10 wr (HP.out.gr hgr))
    obtain ⟨N, hN⟩ : ∃ N, N = names ((j : Int) + 1) := ⟨_, rfl⟩
    rw [← hN] at HN
    have hpos : 0 < N.length := by rw [hN]; exact names_pos j hj10
    obtain ⟨y, hy⟩ : ∃ y, y = N.headD ⟨#[]⟩ := ⟨_, rfl⟩
    have hc : (wr.alloc (.cells (N.map Value.string).toArray 9)).cell? ⟨wr.heap.size, 0, none⟩ = some (.string y) := by
      rw [hy, ← head_getR hpos]
      exact (SBox.made wr N).cell hpos
    have HG2 := Lib.hid (hgr.alloc (.cells (N.map Value.string).toArray 9))
    obtain ⟨w2, hw2⟩ : ∃ w2, w2 = wr.alloc (.cells (N.map Value.string).toArray 9) := ⟨_, rfl⟩
    rw [← hw2] at HN hc HG2
    obtain ⟨n, hn⟩ : ∃ n, n = N.length := ⟨_, rfl⟩
    rw [← hn] at HN hpos
    have t0 : (j : Int) + 1 ≤ 10 := by omega
    have t1 : (0 : Int) < (n : Int) := by omega
    obtain ⟨z, hz⟩ : ∃ z, z = eqS y x := ⟨_, rfl⟩
    have hze : (y.toList == x.toList) = z := hz.symm
    have HZ : Hid (z = decide (j = q)) := Lib.hid (by
      rw [hz, eqS_dec, hy, HX.out, hN]
      by_cases e : j = q
      · subst e; simp
      · rw [decide_eq_false (p := j = q) e]
        exact decide_eq_false fun c => e (heads_inj j hj10 q hq c))
    clear hgr hy hz hw2 hn hN
    go_wp2_with fail
    refine HN.out.mono ?_
    rintro e w1 ⟨rfl, rfl⟩
    rcases z with _ | _
    · have HJ : Hid (j ≠ q) := Lib.hid (fun e => by have := HZ.out; rw [decide_eq_true e] at this; cases this)
      have t2 : wrap64 ((j : Int) + 1 + 1) = (j : Int) + 1 + 1 := wrap64_le (by omega) (by omega)
      go_wp2_with fail
      go_roundw
      case rel =>
        have := HJ.out
        exact ⟨j + 1, by omega, by congr 1, HG2.out⟩
      case measure => simp [intOf]; omega
    · have HJ : Hid (j = q) := Lib.hid (of_decide_eq_true HZ.out.symm)
      go_wp2_with fail
      go_ret
      exact ⟨by have := HJ.out; subst this; rfl, HG2.out⟩
end Go.Proofs.YtnjmgknicffcbaaGreatDoor
