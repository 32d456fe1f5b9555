/- What the cards need: listed tables wherever they stand on the list; an argument that is a vector. -/
import Derived.Test.YtnamjgbppgdgeaaDoorBase
import Derived.Lay
import Derived.MakeChecks
import Derived.Lib.LaidU8
import Derived.Lib.ItoaMem
import Derived.OpenShut
import Derived.Stop.LaidErr
import Derived.Test.YtnamjgbppgdgeaaDoorVecR
import Derived.Test.YtnamjgbppgdgeaaDoorVecA
namespace Go.Proofs.YtnamjgbppgdgeaaDoor
open Go.ChangeShapes Go.WideShapes Go.RowKit

/-- A listed table of integers, wherever it stands on the list. -/
theorem tabIs_mem {P : Program} {W : World} {l : List (String × DataW Unit)} {name : String} {k : IntKind} {zs : List Int} {g : Nat} {t e : TypeId} {n : Nat}
    (hl : (l.all fun x => x.2.handleName?.isNone) = true) (hg : P.globalNamed name = some g) (hty : (P.globals[g]?).map (·.type) = some t) (ht : P.underlying t = some (.array n e)) (he : P.underlying e = some (.int k)) (hce : P.cellsOf e = 1) (hct : P.cellsOf t = n)
    (h : laidMetH P l W) (hm : (name, Lib.tabData k zs) ∈ l) : Lib.TabIs P W name k zs := by
  rw [MakeChecks.laidMetH_plain _ _ _ hl] at h
  obtain ⟨g', t', cs, fuel, p, hg', ht', hvar, hd⟩ := Lib.laidMet.reads h hm
  obtain rfl := Option.some.inj (hg.symm.trans hg')
  obtain rfl := Option.some.inj (hty.symm.trans ht')
  unfold Lib.TabIs
  rw [hvar, ← Lib.cells_of_tab ht he hce hct hd]
theorem laidMet_at {P : Program} {W : World} {x : String × DataW Unit} : ∀ {l : List (String × DataW Unit)}, laidMet P l W → x ∈ l → ∃ r, laidMet P (x :: r) W
  | [], _, hm => by cases hm
  | y :: r, h, hm => by
    rcases List.mem_cons.1 hm with e | e
    · subst e; exact ⟨r, h⟩
    · exact laidMet_at h.tail e
theorem errStar : "*" ++ "errors.errorString" = "*errors.errorString" := by decide
theorem errRow (u : TypeId) (h : Tryd.prog.typeName? 3 u = some "*errors.errorString") : u = 91 :=
  typeName_ptr_named (nm := "errors.errorString") (by rw [errStar]; kernel_rfl) (by kernel_rfl) (by decide) u (by rw [errStar]; exact h)
theorem errSynType : (Tryd.prog.globals[2]?).map (·.type) = some 44 := by kernel_rfl
theorem errRanType : (Tryd.prog.globals[3]?).map (·.type) = some 44 := by kernel_rfl
theorem cellsErr : Tryd.prog.cellsOf 93 = 1 := by kernel_rfl
theorem cellsStr : Tryd.prog.cellsOf 9 = 1 := by kernel_rfl
theorem gPow10 : Tryd.prog.globalNamed "internal/strconv.uint64pow10" = some 0 := by kernel_rfl
theorem gPow10Type : (Tryd.prog.globals[0]?).map (·.type) = some 70 := by kernel_rfl
theorem cellsPow10 : Tryd.prog.cellsOf 70 = 20 := by kernel_rfl
theorem cellsU64' : Tryd.prog.cellsOf 22 = 1 := by kernel_rfl
theorem pow10_laid {W : World} {l : List (String × DataW Unit)} (hl : (l.all fun x => x.2.handleName?.isNone) = true) (h : laidMetH Tryd.prog l W) (hm : ("internal/strconv.uint64pow10", Lib.tabData .u64 Lib.pow10Tab) ∈ l) : Lib.TabIs Tryd.prog W "internal/strconv.uint64pow10" .u64 Lib.pow10Tab :=
  tabIs_mem hl gPow10 gPow10Type Tryd.underlying70 Tryd.underlying22 cellsU64' cellsPow10 h hm

theorem cellsVec : Tryd.prog.cellsOf 24 = 8 := by kernel_rfl
theorem cellsU64v : Tryd.prog.cellsOf 22 = 1 := by kernel_rfl
theorem list_of_8 {α : Type} (l : List α) (h : l.length = 8) : ∃ a b c d e f g i, l = [a, b, c, d, e, f, g, i] := by
  match l, h with
  | [a, b, c, d, e, f, g, i], _ => exact ⟨a, b, c, d, e, f, g, i, rfl⟩
/-- An argument that is a vector. -/
theorem open_vec {H : Type} {enc : TypeId × Value → H} {W : World} {base B : Nat} {sp : Nat → Bool} {held : Bool} {v : Value} {d : DataW H} {p : List MemPlace}
    (hw : Value.okWide Tryd.prog W .any base 24 v) (h : DataW.Trod enc Tryd.prog W B sp held 24 v d p) : ∃ a : Nat → Nat, v = .agg (vcells a) ∧ ∀ k, k < 8 → a k < 18446744073709551616 := by
  obtain ⟨cs, rfl, hsz, _⟩ : ∃ cs, v = .agg cs ∧ cs.size = Tryd.prog.cellsOf 24 ∧ Row.okWide Tryd.prog W .any base 24 cs := by
    simpa [Value.okWide, Tryd.underlying24] using hw
  rw [cellsVec] at hsz
  obtain ⟨fuel, hf⟩ := h
  obtain ⟨xs, m, rfl, hx, hl, hxl, hall⟩ := DataW.trod_array Tryd.underlying24 hf
  obtain ⟨l⟩ := cs
  obtain ⟨c0, c1, c2, c3, c4, c5, c6, c7, rfl⟩ := list_of_8 l (by simpa using hsz)
  obtain ⟨y0, y1, y2, y3, y4, y5, y6, y7, rfl⟩ := list_of_8 xs hxl
  have one : ∀ (c : Value) (y : DataW H × List MemPlace), DataW.trod enc Tryd.prog W B sp held m 22 [c] = some y → ∃ n : Nat, c = .int .u64 (n : Int) ∧ n < 18446744073709551616 := fun c y hy => by
    obtain ⟨x, e, _, w⟩ := DataW.trod_int Tryd.underlying22 hy
    have b := bounds_u64 w
    obtain ⟨n, rfl⟩ := Int.eq_ofNat_of_zero_le b.1
    exact ⟨n, by simpa using e, by omega⟩
  rw [cellsU64v] at hall
  obtain ⟨n0, rfl, b0⟩ := one c0 y0 (hall 0 (by decide))
  obtain ⟨n1, rfl, b1⟩ := one c1 y1 (hall 1 (by decide))
  obtain ⟨n2, rfl, b2⟩ := one c2 y2 (hall 2 (by decide))
  obtain ⟨n3, rfl, b3⟩ := one c3 y3 (hall 3 (by decide))
  obtain ⟨n4, rfl, b4⟩ := one c4 y4 (hall 4 (by decide))
  obtain ⟨n5, rfl, b5⟩ := one c5 y5 (hall 5 (by decide))
  obtain ⟨n6, rfl, b6⟩ := one c6 y6 (hall 6 (by decide))
  obtain ⟨n7, rfl, b7⟩ := one c7 y7 (hall 7 (by decide))
  refine ⟨fun k => match k with | 0 => n0 | 1 => n1 | 2 => n2 | 3 => n3 | 4 => n4 | 5 => n5 | 6 => n6 | _ => n7, rfl, fun k hk => ?_⟩
  match k, hk with
  | 0, _ => exact b0
  | 1, _ => exact b1
  | 2, _ => exact b2
  | 3, _ => exact b3
  | 4, _ => exact b4
  | 5, _ => exact b5
  | 6, _ => exact b6
  | 7, _ => exact b7
theorem sents_laid {W : World} {l : List (String × DataW Unit)} {ts tr : List UInt8} (hl : (l.all fun x => x.2.handleName?.isNone) = true) (h : laidMetH Tryd.prog l W)
    (hs : ("strconv.ErrSyntax", .iface "*errors.errorString" (.ptr (.agg [.lit (.string ts)]))) ∈ l) (hr : ("strconv.ErrRange", .iface "*errors.errorString" (.ptr (.agg [.lit (.string tr)]))) ∈ l) : Sents W := by
  rw [MakeChecks.laidMetH_plain _ _ _ hl] at h
  obtain ⟨r1, h1⟩ := laidMet_at h hs
  obtain ⟨r2, h2⟩ := laidMet_at h hr
  obtain ⟨a1, s1, v1, _, _, _⟩ := laid_sentinel h1 gErrSyn errSynType Tryd.underlying44 errRow Tryd.underlying91 Tryd.underlying93 rfl rfl Tryd.underlying9 cellsErr cellsStr
  obtain ⟨a2, s2, v2, _, _, _⟩ := laid_sentinel h2 gErrRan errRanType Tryd.underlying44 errRow Tryd.underlying91 Tryd.underlying93 rfl rfl Tryd.underlying9 cellsErr cellsStr
  exact ⟨⟨_, _, v1⟩, _, _, v2⟩
end Go.Proofs.YtnamjgbppgdgeaaDoor
