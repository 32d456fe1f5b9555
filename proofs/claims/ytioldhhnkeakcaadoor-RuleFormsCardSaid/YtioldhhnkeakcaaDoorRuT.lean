/- What the cards need: the listed tables and variables that package rule reads, as they are laid. -/
import Derived.Test.YtioldhhnkeakcaaDoorRuC
import Derived.Lay
import Derived.MakeChecks
import Derived.Lib.LaidU8
import Derived.Lib.ItoaMem
import Derived.OpenShut
import Derived.Stop.LaidErr
namespace Go.Proofs.YtioldhhnkeakcaaDoor
open Go.ChangeShapes Go.WideShapes Go.RowKit

/-- A listed table of integers, wherever it stands on the list. -/
theorem tabIs_memR {P : Program} {W : World} {l : List (String × DataW Unit)} {name : String} {k : IntKind} {zs : List Int} {g : Nat} {t e : TypeId} {n : Nat}
    (hl : (l.all fun x => x.2.handleName?.isNone) = true) (hg : P.globalNamed name = some g) (hty : (P.globals[g]?).map (·.type) = some t) (ht : P.underlying t = some (.array n e)) (he : P.underlying e = some (.int k)) (hce : P.cellsOf e = 1) (hct : P.cellsOf t = n)
    (h : laidMetH P l W) (hm : (name, Lib.tabData k zs) ∈ l) : Lib.TabIs P W name k zs := by
  rw [MakeChecks.laidMetH_plain _ _ _ hl] at h
  obtain ⟨g', t', cs, fuel, p, hg', ht', hvar, hd⟩ := Lib.laidMet.reads h hm
  obtain rfl := Option.some.inj (hg.symm.trans hg')
  obtain rfl := Option.some.inj (hty.symm.trans ht')
  unfold Lib.TabIs
  rw [hvar, ← Lib.cells_of_tab ht he hce hct hd]
theorem laidMet_atR {P : Program} {W : World} {x : String × DataW Unit} : ∀ {l : List (String × DataW Unit)}, laidMet P l W → x ∈ l → ∃ r, laidMet P (x :: r) W
  | [], _, hm => by cases hm
  | y :: r, h, hm => by
    rcases List.mem_cons.1 hm with e | e
    · subst e; exact ⟨r, h⟩
    · exact laidMet_atR h.tail e
theorem errStarR : "*" ++ "errors.errorString" = "*errors.errorString" := by decide
theorem errRowR (u : TypeId) (h : Tryd.prog.typeName? 3 u = some "*errors.errorString") : u = 118 :=
  typeName_ptr_named (nm := "errors.errorString") (by rw [errStarR]; kernel_rfl) (by kernel_rfl) (by decide) u (by rw [errStarR]; exact h)
theorem errSynTypeR : (Tryd.prog.globals[1]?).map (·.type) = some 56 := by kernel_rfl
theorem errRanTypeR : (Tryd.prog.globals[2]?).map (·.type) = some 56 := by kernel_rfl
theorem cellsErrR : Tryd.prog.cellsOf 120 = 1 := by kernel_rfl
theorem cellsStrR : Tryd.prog.cellsOf 9 = 1 := by kernel_rfl
theorem gPowTypeR : (Tryd.prog.globals[3]?).map (·.type) = some 108 := by kernel_rfl
theorem cellsPowR : Tryd.prog.cellsOf 108 = 20 := by kernel_rfl
theorem cellsU64R : Tryd.prog.cellsOf 43 = 1 := by kernel_rfl
theorem gLinesR : Tryd.prog.globalNamed "levee/rule.lines" = some 0 := by kernel_rfl
theorem gLinesTypeR : (Tryd.prog.globals[0]?).map (·.type) = some 98 := by kernel_rfl
def linesD : DataW Unit := .agg (lineK.map fun s => .lit (.string s.data.toList))
theorem lines_laid {W : World} {l : List (String × DataW Unit)} (hl : (l.all fun x => x.2.handleName?.isNone) = true) (h : laidMetH Tryd.prog l W) (hm : ("levee/rule.lines", linesD) ∈ l) : Lines W := by
  rw [MakeChecks.laidMetH_plain _ _ _ hl] at h
  obtain ⟨g', t', cs, fuel, p, hg', ht', hvar, hd⟩ := Lib.laidMet.reads h hm
  obtain rfl := Option.some.inj (gLinesR.symm.trans hg')
  obtain rfl := Option.some.inj (gLinesTypeR.symm.trans ht')
  intro k hk
  obtain ⟨fuel', d, q, hds, hr⟩ := Lib.array_elem Tryd.underlying98 hd k hk
  rw [cellsStrR] at hr
  have hdk : d = .lit (.string (lineK.getD k ⟨#[]⟩).data.toList) := by
    have hlen : lineK.length = 10 := rfl
    rw [List.getElem?_map, List.getElem?_eq_getElem (by omega)] at hds
    simp only [Option.map_some, Option.some.injEq] at hds
    rw [← hds, List.getD_eq_getElem?_getD, List.getElem?_eq_getElem (by omega)]
    rfl
  obtain ⟨s, e1, e2, _⟩ := DataW.trod_string Tryd.underlying9 hr
  have e3 : d = .lit (.string s.data.toList) := congrArg Prod.fst e2
  rw [hdk] at e3
  injection e3 with e3
  injection e3 with e3
  have hs : s = lineK.getD k ⟨#[]⟩ := ByteArray.ext (Array.toList_inj.1 e3.symm)
  rw [World.var?_cell gLinesR hvar k, ← hs, ← Array.getElem?_toList]
  have e4 : cs.toList[k]? = ((cs.toList.drop (k * 1)).take 1)[0]? := by
    rw [List.getElem?_take, if_pos (by decide), List.getElem?_drop, Nat.mul_one, Nat.add_zero]
  rw [e4, e1]
  rfl
theorem laid_of {W : World} {l : List (String × DataW Unit)} {ts tr : List UInt8} (hl : (l.all fun x => x.2.handleName?.isNone) = true) (h : laidMetH Tryd.prog l W)
    (hp : ("internal/strconv.uint64pow10", Lib.tabData .u64 Lib.pow10Tab) ∈ l)
    (hs : ("strconv.ErrSyntax", .iface "*errors.errorString" (.ptr (.agg [.lit (.string ts)]))) ∈ l) (hr : ("strconv.ErrRange", .iface "*errors.errorString" (.ptr (.agg [.lit (.string tr)]))) ∈ l)
    (hn : ("levee/rule.lines", linesD) ∈ l) : Laid W := by
  refine ⟨tabIs_memR hl gPowR gPowTypeR Tryd.underlying108 Tryd.underlying43 cellsU64R cellsPowR h hp, ?_, lines_laid hl h hn⟩
  rw [MakeChecks.laidMetH_plain _ _ _ hl] at h
  obtain ⟨r1, h1⟩ := laidMet_atR h hs
  obtain ⟨r2, h2⟩ := laidMet_atR h hr
  obtain ⟨a1, s1, v1, _, _, _⟩ := laid_sentinel h1 gSynR errSynTypeR Tryd.underlying56 errRowR Tryd.underlying118 Tryd.underlying120 rfl rfl Tryd.underlying9 cellsErrR cellsStrR
  obtain ⟨a2, s2, v2, _, _, _⟩ := laid_sentinel h2 gRanR errRanTypeR Tryd.underlying56 errRowR Tryd.underlying118 Tryd.underlying120 rfl rfl Tryd.underlying9 cellsErrR cellsStrR
  exact ⟨⟨_, _, v1⟩, _, _, v2⟩
end Go.Proofs.YtioldhhnkeakcaaDoor
