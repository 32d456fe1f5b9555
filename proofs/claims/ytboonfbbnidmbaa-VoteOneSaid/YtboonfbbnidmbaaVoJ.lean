/- Own maps from a ballot and a value to crowds of bits. -/
import Derived.Test.YtboonfbbnidmbaaVoH
import Derived.Test.YtboonfbbnidmbaaStr
import Derived.Maps.OwnSet
import Derived.Maps.Keyed
import Derived.DeepKeys4
import Derived.WideKeyEntry
import Derived.MakeChecks
namespace Go.Proofs.Ytboonfbbnidmbaa
open Go.RowKit Go.Maps Vo
set_option linter.unusedSimpArgs false
set_option linter.unusedVariables false

theorem rowCh : (60 : TypeId) < Try.prog.types.size := of_decide_eq_true (by kernel_rfl)
theorem wideCh : (match Try.prog.underlying 60 with | some (.array _ _) | some (.struct _) => true | _ => false) = true := by kernel_rfl
theorem keyCh : Keyed Try.prog 60 := Keyed.of_law (deep_law_laid laidOut (m := 3) (by omega) rowCh (by kernel_rfl) wideCh)
abbrev chv (b : Nat) (x : ByteArray) : Value := .agg #[.int .u64 (b : Int), .string x]
/-- The key's literal. -/
def kch (b : Nat) (x : ByteArray) : Lit := .string (keyBytes [.int .u64 (b : Int), .string x.data.toList])
theorem ch_type : Try.prog.keyType 60 = true := by kernel_rfl
theorem ch_size : Try.prog.types.size + 1 = 3 + (Try.prog.types.size - 2) := by kernel_rfl
theorem ch_u64 (d b : Nat) (hb : b < 18446744073709551616) : Try.prog.keyLits (d + 1) 22 [.int .u64 (b : Int)] = some [.int .u64 (b : Int)] := by
  have hw : (Lit.int .u64 (b : Int)).wf = true := by
    have h1 : IntKind.u64.min = 0 := rfl
    have h2 : IntKind.u64.max = 18446744073709551615 := rfl
    simp [Lit.wf, h1, h2]
    omega
  unfold Program.keyLits
  rw [Try.underlying22]
  simp only [hw, and_self, if_true]
theorem ch_str (d : Nat) (x : ByteArray) (hx : x.size ≤ maxLen) : Try.prog.keyLits (d + 1) 9 [.string x] = some [.string x.data.toList] := by
  unfold Program.keyLits
  rw [Try.underlying9]
  simp only [hx, if_true]
theorem ch_key (b : Nat) (x : ByteArray) (hb : b < 18446744073709551616) (hx : x.size ≤ 281474976710656) : keyOf Try.prog 60 (chv b x) = some (kch b x) := by
  have hx2 : x.size ≤ maxLen := by unfold maxLen; omega
  have hf : (chv b x).formed Try.prog 60 = true := by kernel_rfl
  have hk : Try.prog.keyLits (Try.prog.types.size + 1) 60 [.int .u64 (b : Int), .string x] = some [.int .u64 (b : Int), .string x.data.toList] := by
    obtain ⟨d, hd⟩ : ∃ d, Try.prog.types.size + 1 = d + 2 := ⟨Try.prog.types.size - 1, by kernel_rfl⟩
    rw [hd]
    unfold Program.keyLits
    rw [Try.underlying60]
    have e1 := ch_u64 d b hb
    have e2 := ch_str d x hx2
    have c0 : Try.prog.cellsOf 60 = 2 := by kernel_rfl
    have c1 : Try.prog.cellsOf 22 = 1 := by kernel_rfl
    have c2 : Try.prog.cellsOf 9 = 1 := by kernel_rfl
    simp [c0, c1, c2, e1, e2]
  unfold keyOf
  rw [Try.underlying60]
  simp only [ch_type, hf, Bool.and_self, if_true]
  show Option.map _ (Try.prog.keyLits (Try.prog.types.size + 1) 60 [.int .u64 (b : Int), .string x]) = _
  rw [hk]
  rfl
theorem kch_inj {b b' : Nat} {x x' : ByteArray} (hb : b < 18446744073709551616) (hx : x.size ≤ 281474976710656) (hb' : b' < 18446744073709551616) (hx' : x'.size ≤ 281474976710656) (h : kch b x = kch b' x') : b = b' ∧ x = x' := by
  have h1 := ch_key b x hb hx
  have h2 := ch_key b' x' hb' hx'
  rw [← h] at h2
  have e := keyCh.inj h1 h2
  injection e with e
  have e3 := congrArg Array.toList e
  simp only [List.cons.injEq, Value.int.injEq, Value.string.injEq, and_true, true_and] at e3
  exact ⟨by omega, e3.2⟩

section
open Go.ChangeMaps (setBlock)
open Go.WideElems (Fit)
variable {H : Type} {P : Program} {w : World} {t k e : TypeId} {R : Value → Option (DataW H × List MemPlace)} {b n : Nat} {D : DataW H}
theorem grown_setBlock (w : World) (b : Nat) (o : Obj) : w.grownBy (setBlock w b o) (some b) := by
  refine ⟨rfl, rfl, rfl, by simp [setBlock], fun k _ hk => ?_⟩
  show (w.heap.setIfInBounds b o)[k]? = _
  rw [Array.getElem?_setIfInBounds_ne (fun e => hk (by rw [e]))]
/-- An entry asked for, and stored into: what the map tells between and behind. -/
theorem entry_own (h : w.ownsMap P k R b n D) (hm : IsMap D) (L : Go.WideMaps.KeyLaw P k) (ht : P.underlying t = some (.map k e)) {z : Value} (hz : ∀ u : World, (zeroValue e).run P u = .ok z u) {zd : DataW H} (hzd : R z = some (zd, [])) (hn : n < maxLen)
    {key : Value} {kl : Lit} (hkey : keyOf P k key = some kl) :
    ∃ (v0 : Value) (st : Nat) (w1 : World) (D1 : DataW H), (Instr.mapEntry t (.map (some b)) key).run P w = .ok (.tuple #[v0, goInt st]) w1 ∧ w1.ownsMap P k R b (n + 1) D1 ∧ (∀ l, WideAt.IsKeyLit l → D1.atKey l zd = D.atKey l zd) ∧ w.grownBy w1 (some b) ∧
      ∀ w2 : World, w2.heap[b]? = w1.heap[b]? → ∀ (val : Value) (d : DataW H), R val = some (d, []) → ∃ w', (Instr.entryStore t (.map (some b)) (goInt st) val).run P w2 = .ok () w' ∧ w'.ownsMap P k R b (n + 1) (D.put kl d) ∧ w2.grownBy w' (some b) := by
  have K : Keyed P k := Keyed.of_law L
  have h0 := h
  obtain ⟨es, clock, hb, F, hs, hD⟩ := h
  obtain ⟨v0, st, es1, clock1, hrun, _, hst⟩ := Go.WideElems.entry_then_store L ht hz hb F hkey
  have hlt : b < w.heap.size := (Array.getElem?_eq_some_iff.1 hb).1
  have hsame : ∀ o : Obj, (setBlock w b o).heap[b]? = some o := fun o => by
    show (w.heap.setIfInBounds b o)[b]? = _
    rw [Array.getElem?_setIfInBounds_self_of_lt hlt]
  have store : ∀ w2 : World, w2.heap[b]? = (setBlock w b (.map es1 clock1)).heap[b]? → ∀ (val : Value) (d : DataW H), R val = some (d, []) → ∃ w', (Instr.entryStore t (.map (some b)) (goInt st) val).run P w2 = .ok () w' ∧ w'.ownsMap P k R b (n + 1) (D.put kl d) ∧ w2.grownBy w' (some b) := by
    intro w2 hw2 val d hv
    rw [hsame] at hw2
    obtain ⟨es', clock', r1, r2⟩ := hst w2 val hw2
    obtain ⟨w', u1, u2, _⟩ := h0.update K ht hn hkey hv
    rw [r2] at u1
    injection u1 with _ u1
    rw [← u1] at u2
    obtain ⟨es2, clock2, g1, g2⟩ := u2
    have hlt2 : b < w2.heap.size := (Array.getElem?_eq_some_iff.1 hw2).1
    rw [hsame] at g1
    refine ⟨_, r1, ⟨es2, clock2, ?_, g2⟩, grown_setBlock w2 b _⟩
    rw [← g1]
    show (w2.heap.setIfInBounds b _)[b]? = _
    rw [Array.getElem?_setIfInBounds_self_of_lt hlt2]
  rcases K.find w hkey es.toList F.keys with ⟨f1, f2⟩ | ⟨j, e0, f1, f2, f3⟩
  · have hr : (Instr.mapEntry t (.map (some b)) key).run P w = .ok (.tuple #[z, goInt clock]) (setBlock w b (.map (es.push ⟨key, z, clock⟩) (clock + 1))) := by
      simp [Instr.mapEntry, run_underlying ht, MapKept.run_getObj_map hb, K.check w false hkey, f1, hz, MapKept.run_setObj_map _ hb, Result.andThen, setBlock]
    have hu : (Instr.mapUpdate t (.map (some b)) key z).run P w = .ok () (setBlock w b (.map (es.push ⟨key, z, clock⟩) (clock + 1))) := by
      simp [Instr.mapUpdate, run_underlying ht, MapKept.run_getObj_map hb, K.check w false hkey, f1, MapKept.run_setObj_map _ hb, Result.andThen, setBlock]
    rw [hrun] at hr
    injection hr with hr1 hr2
    obtain ⟨w', u1, u2, u3⟩ := h0.update K ht hn hkey hzd
    rw [hu] at u1
    injection u1 with _ u1
    rw [← u1, ← hr2] at u2
    have habs : D.atKey kl zd = zd := by
      obtain ⟨v, ps, l1, l2⟩ := h0.lookup K ht (hz w) hzd hkey
      have l3 : (Instr.lookup t (.map (some b)) key false).run P w = .ok z w := by
        simp [Instr.lookup, run_underlying ht, MapKept.run_getObj_map hb, K.check w _ hkey, f1, hz, Result.andThen]
      rw [l3] at l1
      injection l1 with l1
      rw [← l1, hzd] at l2
      injection l2 with l2
      injection l2 with l2
      exact l2.symm
    refine ⟨v0, st, _, D.put kl zd, hrun, u2, fun l hl => ?_, grown_setBlock w b _, store⟩
    by_cases e : l = kl
    · rw [e, atKey_put_same hm (K.key hkey), habs]
    · exact atKey_put_other e zd zd
  · have hj : es[j]? = some e0 := by simpa using f2
    have hmod : es.modify j (fun e => { e with key := key }) = es := by
      apply Array.ext'
      apply List.ext_getElem?
      intro i
      rw [Array.toList_modify, List.getElem?_modify]
      by_cases e : j = i
      · subst e
        rw [f2]
        show some (if j = j then _ else _) = _
        rw [if_pos rfl, ← f3]
      · simp [e]
    have hr : (Instr.mapEntry t (.map (some b)) key).run P w = .ok (.tuple #[e0.val, goInt e0.born]) (setBlock w b (.map es clock)) := by
      simp [Instr.mapEntry, run_underlying ht, MapKept.run_getObj_map hb, K.check w false hkey, f1, hj, f3, K.stays w hkey, hmod, MapKept.run_setObj_map _ hb, Result.andThen, setBlock]
    rw [hrun] at hr
    injection hr with hr1 hr2
    have ho : (setBlock w b (.map es1 clock1)).ownsMap P k R b n D := by
      refine ⟨es, clock, ?_, F, hs, hD⟩
      rw [hr2]
      exact hsame _
    exact ⟨v0, st, _, D, hrun, ho.mono (Nat.le_succ n), fun l _ => rfl, grown_setBlock w b _, store⟩
end
theorem lawCh : Go.WideMaps.KeyLaw Try.prog 60 := deep_law_laid laidOut (m := 3) (by omega) rowCh (by kernel_rfl) wideCh
/-- Any value reads as itself. -/
def rdC (v : Value) : Option (DataW Value × List MemPlace) := some (.held v, [])
def u8v (c : Nat) : Value := .int .u8 (c : Int)
/-- Block b is a map of at most n entries that tells F of each ballot and value, nought where it holds none. -/
def MapC (w : World) (b n : Nat) (F : Nat → ByteArray → Nat) : Prop :=
  ∃ D : DataW Value, w.ownsMap Try.prog 60 rdC b n D ∧ IsMap D ∧ ∀ (y : Nat) (x : ByteArray), y < 18446744073709551616 → x.size ≤ 281474976710656 → D.atKey (kch y x) (.held (u8v 0)) = .held (u8v (F y x))
theorem MapC.made (w : World) : MapC (w.alloc (.map #[] 0)) w.heap.size 0 (fun _ _ => 0) := ⟨.map [], World.ownsMap_made _ _ _ _, ⟨[], rfl⟩, fun _ _ _ _ => rfl⟩
theorem MapC.kept {w w' : World} {b n : Nat} {F : Nat → ByteArray → Nat} {row : Option Nat} (h : MapC w b n F) (hg : w.grownBy w' row) (hne : some b ≠ row) : MapC w' b n F := by
  obtain ⟨D, h1, h2, h3⟩ := h
  exact ⟨D, h1.kept hg hne, h2, h3⟩
theorem MapC.gr {w w' : World} {b n : Nat} {F : Nat → ByteArray → Nat} (h : MapC w b n F) (g : Gr w w') : MapC w' b n F := h.kept (Kp.of_gr (r := none) g) (by simp)
theorem MapC.lt {w : World} {b n : Nat} {F : Nat → ByteArray → Nat} (h : MapC w b n F) : b < w.heap.size := by
  obtain ⟨D, h1, _⟩ := h
  exact h1.lt
theorem zeroC (w : World) : (zeroValue 5).run Try.prog w = .ok (u8v 0) w := by kernel_rfl
theorem MapC.look {w : World} {b n : Nat} {F : Nat → ByteArray → Nat} (h : MapC w b n F) (y : Nat) (x : ByteArray) (hy : y < 18446744073709551616) (hx : x.size ≤ 281474976710656) :
    (Instr.lookup 58 (.map (some b)) (chv y x) false).run Try.prog w = .ok (.int .u8 (F y x : Int)) w := by
  obtain ⟨D, h1, h2, h3⟩ := h
  obtain ⟨v, ps, hrun, hv⟩ := h1.lookup keyCh Try.underlying58 (zeroC w) (zd := .held (u8v 0)) (zp := []) rfl (ch_key y x hy hx)
  rw [h3 y x hy hx] at hv
  have hv' : (some (DataW.held v, []) : Option (DataW Value × List MemPlace)) = some (.held (u8v (F y x)), ps) := hv
  have e1 := congrArg Prod.fst (Option.some.inj hv')
  have e2 : v = u8v (F y x) := DataW.held.inj e1
  rw [e2] at hrun
  exact hrun
/-- One entry's number turned to c. -/
def upC (F : Nat → ByteArray → Nat) (y : Nat) (x : ByteArray) (c : Nat) : Nat → ByteArray → Nat := fun y' x' => if y' = y ∧ x' = x then c else F y' x'
/-- An entry asked for, and stored into. -/
theorem MapC.entry {w : World} {b n : Nat} {F : Nat → ByteArray → Nat} (h : MapC w b n F) (hn : n < maxLen) (y : Nat) (x : ByteArray) (hy : y < 18446744073709551616) (hx : x.size ≤ 281474976710656) :
    ∃ (v0 : Value) (st : Nat) (w1 : World), (Instr.mapEntry 58 (.map (some b)) (chv y x)).run Try.prog w = .ok (.tuple #[v0, .int .i64 (st : Int)]) w1 ∧ MapC w1 b (n + 1) F ∧ w.grownBy w1 (some b) ∧
      ∀ w2 : World, w2.heap[b]? = w1.heap[b]? → ∀ c : Nat, ∃ w', (Instr.entryStore 58 (.map (some b)) (.int .i64 (st : Int)) (.int .u8 (c : Int))).run Try.prog w2 = .ok () w' ∧ MapC w' b (n + 1) (upC F y x c) ∧ w2.grownBy w' (some b) := by
  obtain ⟨D, h1, h2, h3⟩ := h
  obtain ⟨v0, st, w1, D1, r1, r2, r3, r4, r5⟩ := entry_own h1 h2 lawCh Try.underlying58 (z := u8v 0) (fun u => zeroC u) (zd := .held (u8v 0)) rfl hn (ch_key y x hy hx)
  have hD1 : IsMap D1 := by
    obtain ⟨es, clock, _, _, _, e⟩ := r2
    exact ⟨_, e⟩
  refine ⟨v0, st, w1, r1, ⟨D1, r2, hD1, fun y' x' hy' hx' => ?_⟩, r4, fun w2 hw2 c => ?_⟩
  · rw [r3 (kch y' x') trivial]
    exact h3 y' x' hy' hx'
  · obtain ⟨w', s1, s2, s3⟩ := r5 w2 hw2 (u8v c) (.held (u8v c)) rfl
    refine ⟨w', s1, ⟨_, s2, ?_, fun y' x' hy' hx' => ?_⟩, s3⟩
    · obtain ⟨es, rfl⟩ := h2
      exact ⟨_, rfl⟩
    · unfold upC
      by_cases e : y' = y ∧ x' = x
      · obtain ⟨rfl, rfl⟩ := e
        rw [if_pos ⟨rfl, rfl⟩]
        exact atKey_put_same h2 (show WideAt.IsKeyLit (kch y' x') from trivial) _ _
      · rw [if_neg e, atKey_put_other (fun q => e (kch_inj hy' hx' hy hx q))]
        exact h3 y' x' hy' hx'
end Go.Proofs.Ytboonfbbnidmbaa
