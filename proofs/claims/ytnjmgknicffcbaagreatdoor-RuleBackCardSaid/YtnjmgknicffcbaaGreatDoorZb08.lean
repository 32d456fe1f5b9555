/- Walks over package rule: Text, Whole, within, namesOf. What the cards need: the listed tables and variables that package rule reads, as they are laid. Slices of strings: what a slice value reads as; rows of the call's own. -/
import Derived.Test.YtnjmgknicffcbaaGreatDoorZb02
import Derived.Test.YtnjmgknicffcbaaGreatDoorZb07
import Derived.Test.YtnjmgknicffcbaaGreatDoorZb03
import Derived.Lib.SmallJoins
import Derived.Deep.Light
import Derived.Lay
import Derived.MakeChecks
import Derived.Lib.LaidU8
import Derived.Lib.ItoaMem
import Derived.OpenShut
import Derived.Stop.LaidErr
import Derived.Test.YtnjmgknicffcbaaGreatDoorZb04
import Derived.Lib.Hide
namespace Go.Proofs.YtnjmgknicffcbaaGreatDoor
open Go.RowKit Go.Joins
set_option linter.unusedSimpArgs false
set_option linter.unusedVariables false

/-- The lines of the kinds, as the program writes them. -/
def lineK : List ByteArray := [⟨#[99, 111, 117, 110, 116, 101, 114, 32, 75, 69, 89, 32, 83, 84, 65, 82, 84]⟩, ⟨#[98, 111, 117, 110, 100, 32, 75, 69, 89, 32, 77, 73, 78, 32, 83, 84, 65, 82, 84]⟩, ⟨#[115, 101, 116, 32, 75, 69, 89]⟩, ⟨#[102, 105, 114, 109, 32, 75, 69, 89]⟩, ⟨#[108, 97, 115, 116, 32, 75, 69, 89]⟩, ⟨#[109, 117, 108, 116, 105, 32, 75, 69, 89]⟩, ⟨#[102, 108, 97, 103, 32, 75, 69, 89, 32, 83, 84, 65, 82, 84]⟩, ⟨#[105, 100, 115, 32, 75, 69, 89]⟩, ⟨#[114, 101, 102, 32, 75, 69, 89, 32, 79, 84, 72, 69, 82]⟩, ⟨#[101, 105, 116, 104, 101, 114, 32, 75, 69, 89, 32, 79, 84, 72, 69, 82]⟩]
def Lines (w : World) : Prop := ∀ k, k < 10 → w.cell? ⟨0, k, none⟩ = some (.string (lineK.getD k ⟨#[]⟩))
theorem Lines.gr {w w' : World} (h : Lines w) (g : Gr w w') : Lines w' := fun k hk => g.cell (h k hk)
/-- What the library's and the program's tables hold. -/
structure Laid (w : World) : Prop where
  pow : Lib.TabIs Tryz.prog w "internal/strconv.uint64pow10" .u64 Lib.pow10Tab
  sents : Sents2 w
  lines : Lines w
theorem gPowR : Tryz.prog.globalNamed "internal/strconv.uint64pow10" = some 1 := by kernel_rfl
theorem gSynR : Tryz.prog.globalNamed "strconv.ErrSyntax" = some 7 := by kernel_rfl
theorem gRanR : Tryz.prog.globalNamed "strconv.ErrRange" = some 8 := by kernel_rfl
theorem Laid.gr {w w' : World} (h : Laid w) (g : Gr w w') : Laid w' := by
  obtain ⟨h1, ⟨⟨a, b, h2⟩, ⟨c, d, h3⟩⟩, h4⟩ := h
  exact ⟨tab_stays gPowR h1 g (Nat.le_refl _), ⟨⟨a, b, var_stays gSynR h2 g (Nat.le_refl _)⟩, ⟨c, d, var_stays gRanR h3 g (Nat.le_refl _)⟩⟩, h4.gr g⟩

theorem rutext_any (n : Int) (h0 : -9223372036854775808 ≤ n) (h1 : n ≤ 9223372036854775807) (w : World) (hp : Laid w) :
    Calls Tryz.prog 47 #[.int .i64 n] w fun e w' => e = .returned (.string ⟨(Lib.itoa n).toArray⟩) ∧ Gr w w' := by
  have H := Lib.hid (fun w hp => formatInt_any n h0 h1 w hp)
  have HP := Lib.hid hp.pow
  clear hp
  go_enter Tryz.func47, Tryz.ntmps47
  go_wp2_with fail
  refine (H.out _ HP.out).mono ?_
  rintro e w1 ⟨rfl, g⟩
  have HG := Lib.hid g
  clear g
  go_wp2_with fail
  go_ret
  exact ⟨rfl, HG.out⟩
theorem rwithin_any (n : Int) (w : World) :
    Calls Tryz.prog 136 #[.int .i64 n] w fun e w' => e = .returned (.bool (inAB n)) ∧ Gr w w' := by
  by_cases h1 : -1099511627776 ≤ n
  · have d1 : decide (-1099511627776 ≤ n) = true := decide_eq_true h1
    by_cases h2 : n ≤ 1099511627776
    · have d2 : decide (n ≤ 1099511627776) = true := decide_eq_true h2
      have HB : Hid (inAB n = true) := Lib.hid (by unfold inAB; rw [d1, d2]; rfl)
      go_enter Tryz.func136, Tryz.ntmps136
      go_wp2_with fail
      go_ret
      exact ⟨by rw [HB.out]; rfl, Gr.refl _⟩
    · have d2 : decide (n ≤ 1099511627776) = false := decide_eq_false h2
      have HB : Hid (inAB n = false) := Lib.hid (by unfold inAB; rw [d1, d2]; rfl)
      go_enter Tryz.func136, Tryz.ntmps136
      go_wp2_with fail
      go_ret
      exact ⟨by rw [HB.out]; rfl, Gr.refl _⟩
  · have d1 : decide (-1099511627776 ≤ n) = false := decide_eq_false h1
    have HB : Hid (inAB n = false) := Lib.hid (by unfold inAB; rw [d1]; rfl)
    go_enter Tryz.func136, Tryz.ntmps136
    go_wp2_with fail
    go_ret
    exact ⟨by rw [HB.out]; rfl, Gr.refl _⟩
theorem size_arrR (l : List UInt8) : (⟨l.toArray⟩ : ByteArray).size = l.length := by simp [ByteArray.size]
theorem min_len : (⟨(Lib.itoa (-1099511627776)).toArray⟩ : ByteArray).size = 14 := by
  rw [size_arrR, PV.itoa_minus (by decide), List.length_cons, Lib.decDigits_length, Lib.nDigits_unique 12 _ (by decide) (by decide)]
def wholeVal (o : Option Int) : Value := .tuple #[.int .i64 (o.getD 0), .bool o.isSome]
theorem parse_range {l : List UInt8} {v : Int} (h : Lib.parseIntB 64 l = .ok v) : -9223372036854775808 ≤ v ∧ v ≤ 9223372036854775807 := by
  have e : (2 : Nat) ^ (64 - 1) = 9223372036854775808 := by decide
  cases l with
  | nil => cases h
  | cons c r =>
    by_cases h43 : c.toNat = 43
    · obtain rfl : c = 43 := UInt8.toNat_inj.1 h43
      rw [Lib.parseIntB_plus, e] at h
      cases hq : Lib.parseUintB 64 r <;> rw [hq] at h <;> simp only [Lib.signlessC] at h
      · split at h
        · cases h
        · injection h with h; omega
      · cases h
      · cases h
    by_cases h45 : c.toNat = 45
    · obtain rfl : c = 45 := UInt8.toNat_inj.1 h45
      rw [Lib.parseIntB_minus, e] at h
      cases hq : Lib.parseUintB 64 r <;> rw [hq] at h <;> simp only [Lib.signedC] at h
      · split at h
        · cases h
        · injection h with h; omega
      · cases h
      · cases h
    rw [Lib.parseIntB_plain _ _ _ h43 h45, e] at h
    cases hq : Lib.parseUintB 64 (c :: r) <;> rw [hq] at h <;> simp only [Lib.signlessC] at h
    · split at h
      · cases h
      · injection h with h; omega
    · cases h
    · cases h
set_option maxRecDepth 100000 in
set_option maxHeartbeats 2000000 in
theorem whole_any (s : ByteArray) (hs : s.size ≤ 281474976710656) (w : World) (hp : Laid w) :
    Calls Tryz.prog 149 #[.string s] w fun e w' => e = .returned (wholeVal (PV.wholeL s.data.toList)) ∧ Gr w w' := by
  have HM := Lib.hid (fun w hp => rutext_any (-1099511627776) (by decide) (by decide) w hp)
  have HP := Lib.hid hp
  clear hp
  by_cases hlong : 14 < s.size
  · have HN := Lib.hid (PV.wholeL_long (l := s.data.toList) (by rw [Array.length_toList]; exact hlong))
    have hml := min_len
    go_enter Tryz.func149, Tryz.ntmps149
    go_wp2_with fail
    refine (HM.out _ HP.out).mono ?_
    rintro e w1 ⟨rfl, g⟩
    have HG := Lib.hid g
    clear g
    go_wp2_with fail
    go_ret2
    exact ⟨by rw [HN.out]; rfl, HG.out⟩
  · have hml := min_len
    by_cases hok : ∃ v, Lib.parseIntB 64 s.data.toList = .ok v
    · obtain ⟨v, hv⟩ := hok
      obtain ⟨r0, r1⟩ := parse_range hv
      have HI := Lib.hid (fun w => parseInt_ok s hs v hv w)
      have HT := Lib.hid (fun w hp => rutext_any v r0 r1 w hp)
      have HW := Lib.hid (fun w => rwithin_any v w)
      obtain ⟨q, hq⟩ : ∃ q, q = inAB v := ⟨_, rfl⟩
      obtain ⟨t, ht⟩ : ∃ t : ByteArray, t = ⟨(Lib.itoa v).toArray⟩ := ⟨_, rfl⟩
      obtain ⟨z, hz⟩ : ∃ z, z = eqS t s := ⟨_, rfl⟩
      have hze : (t.toList == s.toList) = z := hz.symm
      have hze2 : (t.toList != s.toList) = !z := by rw [bne, hze]
      have HR : Hid (PV.wholeL s.data.toList = if q && z then some v else none) := Lib.hid (by
        by_cases c : inAB v = true ∧ eqS t s = true
        · rw [hq, hz, c.1, c.2]
          have e := eqS_iff.1 c.2
          have := PV.wholeL_itoa (inAB_iff.1 c.1)
          rw [← e, ht]
          exact this
        · have : (q && z) = false := by
            rw [hq, hz]
            cases h1 : inAB v <;> cases h2 : eqS t s <;> first | rfl | exact absurd ⟨h1, h2⟩ c
          rw [this]
          refine PV.wholeL_ok hv fun k => c ⟨inAB_iff.2 k.1, ?_⟩
          rw [eqS_iff, ht, k.2])
      rw [← hq] at HW
      rw [← ht] at HT
      clear hq hz ht hv
      go_enter Tryz.func149, Tryz.ntmps149
      go_wp2_with fail
      refine (HM.out _ HP.out).mono ?_
      rintro e w1 ⟨rfl, g⟩
      have HG := Lib.hid g
      have HP1 := Lib.hid (HP.out.gr g)
      clear g
      go_wp2_with fail
      refine (HI.out _).mono ?_
      rintro e w2 ⟨rfl, g⟩
      have HG2 := Lib.hid (HG.out.trans g)
      have HP2 := Lib.hid (HP1.out.gr g)
      clear g
      rcases q with _ | _
      · go_wp2_with fail
        refine (HW.out _).mono ?_
        rintro e w3 ⟨rfl, g⟩
        have HG3 := Lib.hid (HG2.out.trans g)
        clear g
        go_wp2_with fail
        go_ret2
        exact ⟨by rw [HR.out]; rfl, HG3.out⟩
      · go_wp2_with fail
        refine (HW.out _).mono ?_
        rintro e w3 ⟨rfl, g⟩
        have HG3 := Lib.hid (HG2.out.trans g)
        have HP3 := Lib.hid (HP2.out.gr g)
        clear g
        go_wp2_with fail
        refine (HT.out _ HP3.out).mono ?_
        rintro e w4 ⟨rfl, g⟩
        have HG4 := Lib.hid (HG3.out.trans g)
        clear g
        rcases z with _ | _
        · go_wp2_with fail
          go_ret2
          exact ⟨by rw [HR.out]; rfl, HG4.out⟩
        · go_wp2_with fail
          go_ret2
          exact ⟨by rw [HR.out]; rfl, HG4.out⟩
    · have HN := Lib.hid (PV.wholeL_bad (l := s.data.toList) (fun v hv => hok ⟨v, hv⟩))
      have HI := Lib.hid (fun w hS => parseInt_bad s hs (fun v hv => hok ⟨v, hv⟩) w hS)
      go_enter Tryz.func149, Tryz.ntmps149
      go_wp2_with fail
      refine (HM.out _ HP.out).mono ?_
      rintro e w1 ⟨rfl, g⟩
      have HG := Lib.hid g
      have HP1 := Lib.hid (HP.out.gr g)
      clear g
      go_wp2_with fail
      refine (HI.out _ HP1.out.sents).mono ?_
      rintro e w2 ⟨n, N, rfl, g⟩
      have HG2 := Lib.hid (HG.out.trans g)
      clear g
      go_wp2_with fail
      go_ret2
      exact ⟨by rw [HN.out]; rfl, HG2.out⟩
end Go.Proofs.YtnjmgknicffcbaaGreatDoor
namespace Go.Proofs.YtnjmgknicffcbaaGreatDoor
open Go.ChangeShapes Go.WideShapes Go.RowKit

/-- A listed table of integers, wherever it stands on the list. -/
theorem tabIs_memR {P : Program} {W : World} {l : List (String × DataW Unit)} {name : String} {k : IntKind} {zs : List Int} {g : Nat} {t e : TypeId} {n : Nat}
    (hl : (l.all fun x => x.2.handleName?.isNone) = true) (hg : P.globalNamed name = some g) (hty : (P.globals[g]?).map (·.type) = some t) (ht : P.underlying t = some (.array n e)) (he : P.underlying e = some (.int k)) (hce : P.cellsOf e = 1) (hct : P.cellsOf t = n)
    (h : laidMetH P l W) (hm : (name, Lib.tabData k zs) ∈ l) : Lib.TabIs P W name k zs := by
  rw [MakeChecks.laidMetH_plain _ _ _ hl] at h
  obtain ⟨g', t', cs, fuel, p, hg', ht', hvar, hd⟩ := Lib.laidMet.reads h hm
  obtain rfl := Option.some.inj (hg.symm.trans hg')
  obtain rfl := Option.some.inj (hty.symm.trans ht')
  unfold Lib.TabIs
  rw [hvar, ← Lib.cells_of_tab ht he hce hct hd]
theorem laidMet_atR {P : Program} {W : World} {x : String × DataW Unit} : ∀ {l : List (String × DataW Unit)}, laidMet P l W → x ∈ l → ∃ r, laidMet P (x :: r) W
  | [], _, hm => by cases hm
  | y :: r, h, hm => by
    rcases List.mem_cons.1 hm with e | e
    · subst e; exact ⟨r, h⟩
    · exact laidMet_atR h.tail e
theorem errStarR : "*" ++ "errors.errorString" = "*errors.errorString" := by decide
theorem errRowR (u : TypeId) (h : Tryz.prog.typeName? 3 u = some "*errors.errorString") : u = 269 :=
  typeName_ptr_named (nm := "errors.errorString") (by rw [errStarR]; kernel_rfl) (by kernel_rfl) (by decide) u (by rw [errStarR]; exact h)
theorem errSynTypeR : (Tryz.prog.globals[7]?).map (·.type) = some 105 := by kernel_rfl
theorem errRanTypeR : (Tryz.prog.globals[8]?).map (·.type) = some 105 := by kernel_rfl
theorem cellsErrR : Tryz.prog.cellsOf 271 = 1 := by kernel_rfl
theorem cellsStrR : Tryz.prog.cellsOf 9 = 1 := by kernel_rfl
theorem gPowTypeR : (Tryz.prog.globals[1]?).map (·.type) = some 214 := by kernel_rfl
theorem cellsPowR : Tryz.prog.cellsOf 214 = 20 := by kernel_rfl
theorem cellsU64R : Tryz.prog.cellsOf 26 = 1 := by kernel_rfl
theorem gLinesR : Tryz.prog.globalNamed "levee/rule.lines" = some 0 := by kernel_rfl
theorem gLinesTypeR : (Tryz.prog.globals[0]?).map (·.type) = some 186 := by kernel_rfl
def linesD : DataW Unit := .agg (lineK.map fun s => .lit (.string s.data.toList))
theorem lines_laid {W : World} {l : List (String × DataW Unit)} (hl : (l.all fun x => x.2.handleName?.isNone) = true) (h : laidMetH Tryz.prog l W) (hm : ("levee/rule.lines", linesD) ∈ l) : Lines W := by
  rw [MakeChecks.laidMetH_plain _ _ _ hl] at h
  obtain ⟨g', t', cs, fuel, p, hg', ht', hvar, hd⟩ := Lib.laidMet.reads h hm
  obtain rfl := Option.some.inj (gLinesR.symm.trans hg')
  obtain rfl := Option.some.inj (gLinesTypeR.symm.trans ht')
  intro k hk
  obtain ⟨fuel', d, q, hds, hr⟩ := Lib.array_elem Tryz.underlying186 hd k hk
  rw [cellsStrR] at hr
  have hdk : d = .lit (.string (lineK.getD k ⟨#[]⟩).data.toList) := by
    have hlen : lineK.length = 10 := rfl
    rw [List.getElem?_map, List.getElem?_eq_getElem (by omega)] at hds
    simp only [Option.map_some, Option.some.injEq] at hds
    rw [← hds, List.getD_eq_getElem?_getD, List.getElem?_eq_getElem (by omega)]
    rfl
  obtain ⟨s, e1, e2, _⟩ := DataW.trod_string Tryz.underlying9 hr
  have e3 : d = .lit (.string s.data.toList) := congrArg Prod.fst e2
  rw [hdk] at e3
  injection e3 with e3
  injection e3 with e3
  have hs : s = lineK.getD k ⟨#[]⟩ := ByteArray.ext (Array.toList_inj.1 e3.symm)
  rw [World.var?_cell gLinesR hvar k, ← hs, ← Array.getElem?_toList]
  have e4 : cs.toList[k]? = ((cs.toList.drop (k * 1)).take 1)[0]? := by
    rw [List.getElem?_take, if_pos (by decide), List.getElem?_drop, Nat.mul_one, Nat.add_zero]
  rw [e4, e1]
  rfl
theorem laid_of {W : World} {l : List (String × DataW Unit)} {ts tr : List UInt8} (hl : (l.all fun x => x.2.handleName?.isNone) = true) (h : laidMetH Tryz.prog l W)
    (hp : ("internal/strconv.uint64pow10", Lib.tabData .u64 Lib.pow10Tab) ∈ l)
    (hs : ("strconv.ErrSyntax", .iface "*errors.errorString" (.ptr (.agg [.lit (.string ts)]))) ∈ l) (hr : ("strconv.ErrRange", .iface "*errors.errorString" (.ptr (.agg [.lit (.string tr)]))) ∈ l)
    (hn : ("levee/rule.lines", linesD) ∈ l) : Laid W := by
  refine ⟨tabIs_memR hl gPowR gPowTypeR Tryz.underlying214 Tryz.underlying26 cellsU64R cellsPowR h hp, ?_, lines_laid hl h hn⟩
  rw [MakeChecks.laidMetH_plain _ _ _ hl] at h
  obtain ⟨r1, h1⟩ := laidMet_atR h hs
  obtain ⟨r2, h2⟩ := laidMet_atR h hr
  obtain ⟨a1, s1, v1, _, _, _⟩ := laid_sentinel h1 gSynR errSynTypeR Tryz.underlying105 errRowR Tryz.underlying269 Tryz.underlying271 rfl rfl Tryz.underlying9 cellsErrR cellsStrR
  obtain ⟨a2, s2, v2, _, _, _⟩ := laid_sentinel h2 gRanR errRanTypeR Tryz.underlying105 errRowR Tryz.underlying269 Tryz.underlying271 rfl rfl Tryz.underlying9 cellsErrR cellsStrR
  exact ⟨⟨_, _, v1⟩, _, _, v2⟩
end Go.Proofs.YtnjmgknicffcbaaGreatDoor
namespace Go.Proofs.YtnjmgknicffcbaaGreatDoor
open Go.RowKit

/-- The slice value v reads as the strings L. -/
def SV (w : World) (v : Value) (L : List ByteArray) : Prop :=
  ∃ A c, v = .slice A L.length c ∧ L.length ≤ c ∧ (c ≤ maxLen ∧ (A = Option.none → c = 0)) ∧ ∀ j (hj : j < L.length), ∃ b off, A = some ⟨b, off, none⟩ ∧ w.cell? ⟨b, off + j, none⟩ = some (.string L[j])

theorem SV.gr {w w' : World} {v : Value} {L : List ByteArray} (h : SV w v L) (g : Gr w w') : SV w' v L := by
  obtain ⟨A, c, hv, h1, h2, h3⟩ := h
  refine ⟨A, c, hv, h1, h2, fun j hj => ?_⟩
  obtain ⟨b, off, ha, hc⟩ := h3 j hj
  exact ⟨b, off, ha, g.cell hc⟩
theorem SV.nil (w : World) : SV w (.slice none 0 0) [] := ⟨none, 0, rfl, Nat.le_refl _, ⟨Nat.zero_le _, fun _ => rfl⟩, fun j hj => absurd hj (by simp)⟩

theorem SV.of_own {w : World} {base : Nat} {e : TypeId} {v : Value} {L : List ByteArray} (h : w.ownsRow base e 1 v L.length (L.map Value.string)) : SV w v L := by
  rcases h.2 with ⟨rfl, h0⟩ | ⟨g, cap, cur, rfl, hb, hg, hn, hm, hc, ht⟩
  · have : L = [] := List.length_eq_zero_iff.1 h0
    subst this
    exact SV.nil w
  · refine ⟨_, cap, rfl, hn, ⟨hm, fun h => by cases h⟩, fun j hj => ⟨g, 0, rfl, ?_⟩⟩
    rw [Nat.zero_add, h.cellAt j (by omega)]
    simp [hj]
theorem infoString : (Tryz.prog.info? 9).map (fun i => (i.zero, i.size, i.bytes)) = some (some (.string ⟨#[]⟩), 1, 16) := by kernel_rfl

end Go.Proofs.YtnjmgknicffcbaaGreatDoor
