/- Walks: value's rising. Walks: slices.BinarySearch of rising strings. Walks: slices.IndexFunc and slices.DeleteFunc of deeds, by the predicate that unseen hands them. Walks: slices.IndexFunc and slices.DeleteFunc of strings, by a predicate of one captured variable, told by its contract. -/
import Derived.Test.YtlihcjlonafohaaGreatZf08
import Derived.Test.YtlihcjlonafohaaGreatZf11
import Derived.Test.YtlihcjlonafohaaGreatZf12
import Derived.Deep.LoopGhost
namespace Go.Proofs.YtlihcjlonafohaaGreat
open Go.RowKit Go.Joins
set_option linter.unusedSimpArgs false
set_option linter.unusedVariables false

theorem mades : ∀ n, (madeCells (Value.string ⟨#[]⟩).cells n).toList = (List.replicate n (⟨#[]⟩ : ByteArray)).map Value.string := by
  intro n
  apply List.ext_getElem?
  intro j
  by_cases hj : j < n
  · simp [madeCells, hj, Value.cells, Nat.mod_one]
  · simp [madeCells, hj]
theorem make_strs (n : Nat) (hn : 16 * n ≤ 281474976710656) (W : World) : ∃ W', (Instr.makeSlice 34 (.int .i64 (n : Int)) (.int .i64 (n : Int))).run Tryz.prog W = .ok (.slice (some ⟨W.heap.size, 0, none⟩) n n) W' ∧
    SO W' W.heap.size (.slice (some ⟨W.heap.size, 0, none⟩) n n) (List.replicate n ⟨#[]⟩) ∧ Gr W W' := by
  obtain ⟨i0, hi, hz0, hz1, hz2⟩ := info_parts infoString
  obtain ⟨w', h1, h2, h3⟩ := run_make_full (P := Tryz.prog) W W.heap.size 34 9 i0 _ 1 Tryz.underlying34 hi hz0 hz1 .i64 .i64 n (by rw [hz2]; exact hn) (by unfold maxLen; omega) (Nat.le_refl _)
  rw [Nat.mul_one, mades] at h2
  refine ⟨w', h1, ?_, ⟨h3.1, h3.2, h3.3, h3.4, fun k hk => h3.5 k hk (by intro e; cases e)⟩⟩
  unfold SO
  rw [List.length_replicate]
  exact h2
theorem SO.setV {w : World} {B g n c : Nat} {L : List ByteArray} (h : SO w B (.slice (some ⟨g, 0, none⟩) n c) L) {i : Nat} (hi : i < L.length) (s : ByteArray) : SO (w.setCell ⟨g, i, none⟩ (.string s)) B (.slice (some ⟨g, 0, none⟩) n c) (L.set i s) := by
  obtain ⟨rfl, _⟩ := h.lenV
  obtain ⟨h1, _⟩ := h.stored i (.string s)
  have e : (L.map Value.string).set i (.string s) = (L.set i s).map Value.string := by rw [List.map_set]
  rw [e] at h1
  unfold SO
  rw [List.length_set]
  exact h1
/-- A row that is being filled: the first j are there. -/
def fillE (T : List ByteArray) (j : Nat) : List ByteArray := T.take j ++ List.replicate (T.length - j) ⟨#[]⟩
theorem fillE_zero (T : List ByteArray) : fillE T 0 = List.replicate T.length ⟨#[]⟩ := by simp [fillE]
theorem fillE_all (T : List ByteArray) : fillE T T.length = T := by simp [fillE]
theorem fillE_len (T : List ByteArray) {j : Nat} (h : j ≤ T.length) : (fillE T j).length = T.length := by simp [fillE]; omega
theorem fillE_next {T : List ByteArray} {j : Nat} (h : j < T.length) : (fillE T j).set j T[j] = fillE T (j + 1) := by
  unfold fillE
  have e : T.take (j + 1) = T.take j ++ [T[j]] := by rw [List.take_add_one, List.getElem?_eq_getElem h]; rfl
  rw [List.set_append_right _ _ (by simp; omega), List.length_take, Nat.min_eq_left (by omega), Nat.sub_self, show T.length - j = (T.length - (j + 1)) + 1 by omega, List.replicate_succ, List.set_cons_zero, e, List.append_assoc]
  rfl
theorem Kp.gr_of {r : Option Nat} {w a b : World} (g : Gr w a) (k : Kp r a b) (hr : ∀ q, r = some q → w.heap.size ≤ q) : Gr w b := Below.trans g (k.below g.size hr)
theorem run_field_e (k : Int) (a b : ByteArray) (n : Int) (W : World) : (Instr.field 92 (.agg #[.int .i64 k, .string a, .string b, .int .i64 n]) 2).run Tryz.prog W = .ok (.string b) W := by kernel_rfl

end Go.Proofs.YtlihcjlonafohaaGreat
namespace Go.Proofs.YtlihcjlonafohaaGreat
open Go.RowKit Go.Joins
set_option linter.unusedSimpArgs false
set_option linter.unusedVariables false

theorem nan_str (s : ByteArray) (w : World) : Calls Tryz.prog 118 #[.string s] w fun e w' => e = .returned (.bool false) ∧ w' = w := by
  have h1 : (s.toList != s.toList) = false := by simp
  have h2 : (s.toList == s.toList) = true := by simp
  go_enter Tryz.func118, Tryz.ntmps118
  go_wp2
  go_ret
  exact ⟨by simp, rfl⟩
theorem nan_strS (s : ByteArray) (w : World) : Calls Tryz.prog 150 #[.string s] w fun e w' => e = .returned (.bool false) ∧ w' = w := by
  have h1 : (s.toList != s.toList) = false := by simp
  have h2 : (s.toList == s.toList) = true := by simp
  go_enter Tryz.func150, Tryz.ntmps150
  go_wp2
  go_ret
  exact ⟨by simp, rfl⟩
set_option maxRecDepth 100000 in
theorem less_str (a b : ByteArray) (w : World) : Calls Tryz.prog 149 #[.string a, .string b] w fun e w' => e = .returned (.bool (lessS a b)) ∧ w' = w := by
  obtain ⟨r, hr⟩ : ∃ r, r = lessS a b := ⟨_, rfl⟩
  have h3 : Go.Op.bytesLess a.toList b.toList = r := hr.symm
  rw [← hr]
  clear hr
  have HN := Lib.hid (fun w1 => nan_str a w1)
  go_enter Tryz.func149, Tryz.ntmps149
  go_wp2_with fail
  refine (HN.out _).mono ?_
  rintro e w1 ⟨rfl, rfl⟩
  go_wp2_with fail
  go_ret
  exact ⟨rfl, rfl⟩
/-- Of a rising list: below the place all are less, from it on none. -/
def BsAt (G : List ByteArray) (s : ByteArray) (lo hi : Nat) : Prop := lo ≤ hi ∧ hi ≤ G.length ∧ (∀ j (hj : j < G.length), j < lo → lessS G[j] s = true) ∧ (∀ j (hj : j < G.length), hi ≤ j → lessS G[j] s = false)
theorem risingS_at {G : List ByteArray} (h : RisingS G) {i j : Nat} (hij : i < j) (hj : j < G.length) : lessS (G[i]'(by omega)) G[j] = true := List.pairwise_iff_getElem.1 h i j (by omega) hj hij
theorem BsAt.up {G : List ByteArray} {s : ByteArray} {lo hi m : Nat} (h : BsAt G s lo hi) (hr : RisingS G) (h1 : lo ≤ m) (h2 : m < hi) (hl : lessS (G[m]'(by have := h.2.1; omega)) s = true) : BsAt G s (m + 1) hi := by
  refine ⟨by omega, h.2.1, fun j hj hjm => ?_, h.2.2.2⟩
  rcases Nat.lt_or_eq_of_le (Nat.le_of_lt_succ hjm) with c | c
  · exact lessS_trans (risingS_at hr c (by have := h.2.1; omega)) hl
  · subst c; exact hl
theorem BsAt.down {G : List ByteArray} {s : ByteArray} {lo hi m : Nat} (h : BsAt G s lo hi) (hr : RisingS G) (h1 : lo ≤ m) (h2 : m < hi) (hl : lessS (G[m]'(by have := h.2.1; omega)) s = false) : BsAt G s lo m := by
  refine ⟨h1, by have := h.2.1; omega, h.2.2.1, fun j hj hjm => ?_⟩
  rcases Nat.lt_or_eq_of_le hjm with c | c
  · rw [Bool.eq_false_iff]
    intro k
    have := lessS_trans (risingS_at hr c hj) k
    rw [hl] at this
    cases this
  · subst c; exact hl
/-- Does the string stand in the list? -/
def memS (G : List ByteArray) (s : ByteArray) : Bool := G.any fun x => decide (x = s)
theorem memS_iff {G : List ByteArray} {s : ByteArray} : memS G s = true ↔ s ∈ G := by
  unfold memS
  rw [List.any_eq_true]
  constructor
  · rintro ⟨x, hx, e⟩
    have e := of_decide_eq_true e
    subst e
    exact hx
  · exact fun h => ⟨s, h, decide_eq_true rfl⟩
theorem BsAt.mem {G : List ByteArray} {s : ByteArray} {k : Nat} (h : BsAt G s k k) (hr : RisingS G) : memS G s = decide (G[k]? = some s) := by
  by_cases hm : s ∈ G
  · obtain ⟨j, hj, e⟩ := List.mem_iff_getElem.1 hm
    have hjk : j = k := by
      rcases Nat.lt_trichotomy j k with c | c | c
      · have := h.2.2.1 j hj c
        rw [e, lessS_irrefl] at this
        cases this
      · exact c
      · exfalso
        have h1 := h.2.2.2 k (by omega) (Nat.le_refl _)
        rw [← e, risingS_at hr c hj] at h1
        cases h1
    subst hjk
    rw [memS_iff.2 hm, decide_eq_true (by rw [List.getElem?_eq_getElem hj, e])]
  · rw [Bool.eq_false_iff.2 (fun k => hm (memS_iff.1 k))]
    symm
    rw [decide_eq_false_iff_not]
    intro e
    obtain ⟨hk, e⟩ := List.getElem?_eq_some_iff.1 e
    exact hm (by rw [← e]; exact List.getElem_mem hk)
set_option maxRecDepth 100000 in
set_option maxHeartbeats 4000000 in
theorem binS_any (v : Value) (G : List ByteArray) (s : ByteArray) (w : World) (hv : SV w v G) (hr : RisingS G) (hlen : G.length < 4611686018427387904) :
    Calls Tryz.prog 102 #[v, .string s] w fun e w' => ∃ i : Int, e = .returned (.tuple #[.int .i64 i, .bool (memS G s)]) ∧ Gr w w' := by
  obtain ⟨A, c, hva, hnc, ⟨hcm, -⟩, hat⟩ := hv
  subst hva
  have HAT : Hid (∀ j (hj : j < G.length), ∃ b off, A = some ⟨b, off, none⟩ ∧ w.cell? ⟨b, off + j, none⟩ = some (.string G[j])) := Lib.hid hat
  have HR := Lib.hid hr
  have HL := Lib.hid (fun a w1 => less_str a s w1)
  have HNS := Lib.hid (fun a w1 => nan_strS a w1)
  obtain ⟨n, hn⟩ : ∃ n, n = G.length := ⟨_, rfl⟩
  rw [← hn] at hnc hlen ⊢
  have HN := Lib.hid hn
  have HB0 : Hid (BsAt G s 0 n) := Lib.hid ⟨Nat.zero_le _, by rw [hn]; exact Nat.le_refl _, fun j _ h => absurd h (Nat.not_lt_zero _), fun j hj h => by omega⟩
  clear hn hat hr hcm
  go_enter Tryz.func102, Tryz.ntmps102
  go_wp2
  go_loopg [7, 8] n (fun gg s7 s8 wr => ∃ lo hi : Nat, s7 = .int .i64 lo ∧ s8 = .int .i64 hi ∧ hi - lo ≤ gg ∧ Hid (BsAt G s lo hi ∧ Gr w wr))
  case atStart => exact ⟨0, n, rfl, rfl, by omega, Lib.hid ⟨HB0.out, Gr.refl _⟩⟩
  case round =>
    obtain ⟨lo, hi, rfl, rfl, hg, hst⟩ := hrel
    have hlh := hst.out.1.1
    have hin : hi ≤ n := by rw [HN.out]; exact hst.out.1.2.1
    by_cases hlt : lo < hi
    · obtain ⟨m, hm⟩ : ∃ m, m = (lo + hi) / 2 := ⟨_, rfl⟩
      have hm1 : lo ≤ m := by omega
      have hm2 : m < hi := by omega
      have hmG : m < G.length := by have := HN.out; omega
      obtain ⟨b, off, hA, q0⟩ := HAT.out m hmG
      subst hA
      have q1 := hst.out.2.cell q0
      obtain ⟨y, hy⟩ : ∃ y, y = G[m] := ⟨_, rfl⟩
      rw [← hy] at q1
      have em : ((lo : Int) + (hi : Int)) / 2 = (m : Int) := by omega
      have HL2 := Lib.hid (HL.out y wr)
      rcases hl : lessS y s with _ | _
      · rw [hl] at HL2
        have HD : Hid (BsAt G s lo m ∧ Gr w wr) := Lib.hid ⟨hst.out.1.down HR.out hm1 hm2 (by rw [← hy]; exact hl), hst.out.2⟩
        have HM := Lib.hid hm
        clear hy q0 hl hst hm
        go_wp2_with fail
        refine HL2.out.mono ?_
        rintro e w1 ⟨rfl, rfl⟩
        go_wp2_with fail
        go_roundg (m - lo)
        case measure => omega
        case rel => exact ⟨lo, m, rfl, rfl, Nat.le_refl _, HD⟩
      · rw [hl] at HL2
        have HD : Hid (BsAt G s (m + 1) hi ∧ Gr w wr) := Lib.hid ⟨hst.out.1.up HR.out hm1 hm2 (by rw [← hy]; exact hl), hst.out.2⟩
        have HM := Lib.hid hm
        clear hy q0 hl hst hm
        go_wp2_with fail
        refine HL2.out.mono ?_
        rintro e w1 ⟨rfl, rfl⟩
        go_wp2_with fail
        go_roundg (hi - (m + 1))
        case measure => omega
        case rel => exact ⟨m + 1, hi, by go_num, rfl, Nat.le_refl _, HD⟩
    · have e : hi = lo := by omega
      subst e
      have HME := Lib.hid (hst.out.1.mem HR.out)
      have HGW := Lib.hid hst.out.2
      by_cases hln : hi < n
      · have hhG : hi < G.length := by rw [← HN.out]; exact hln
        obtain ⟨b, off, hA, q0⟩ := HAT.out hi hhG
        subst hA
        have q1 := hst.out.2.cell q0
        obtain ⟨y, hy⟩ : ∃ y, y = G[hi] := ⟨_, rfl⟩
        rw [← hy] at q1
        have hge : G[hi]? = some y := by rw [List.getElem?_eq_getElem hhG, hy]
        rw [hge] at HME
        have HN2 := Lib.hid (HNS.out y wr)
        by_cases hys : y = s
        · have HE : Hid (memS G s = true) := Lib.hid (by rw [HME.out, hys]; exact decide_eq_true rfl)
          have p1 : (y.toList == s.toList) = true := by rw [hys]; simp
          clear hge hy q0 hst HME hys
          go_wp2_with fail
          go_ret2
          exact ⟨(hi : Int), by rw [HE.out]; rfl, HGW.out⟩
        · have HE : Hid (memS G s = false) := Lib.hid (by rw [HME.out]; exact decide_eq_false fun h => hys (Option.some.inj h))
          have p1 : (y.toList == s.toList) = false := by
            have := eqS_ne hys
            unfold eqS at this
            exact this
          clear hge hy q0 hst HME hys
          go_wp2_with fail
          refine HN2.out.mono ?_
          rintro e w1 ⟨rfl, rfl⟩
          go_wp2_with fail
          go_ret2
          exact ⟨(hi : Int), by rw [HE.out]; rfl, HGW.out⟩
      · have HE : Hid (memS G s = false) := Lib.hid (by
          rw [HME.out]
          refine decide_eq_false fun h => ?_
          rw [List.getElem?_eq_none (by rw [← HN.out]; omega)] at h
          cases h)
        clear hst HME
        go_wp2_with fail
        go_ret2
        exact ⟨(hi : Int), by rw [HE.out]; rfl, HGW.out⟩
end Go.Proofs.YtlihcjlonafohaaGreat
namespace Go.Proofs.YtlihcjlonafohaaGreat
open Go.RowKit Go.Joins
set_option linter.unusedSimpArgs false
set_option linter.unusedVariables false

section
variable {w : World} {B g n c : Nat} {L : List DD}
end
theorem own_beyondD {w : World} {B : Nat} {t : TypeId} {size g n c : Nat} {xs : List Value} (h : w.ownsRow B t size (.slice (some ⟨g, 0, none⟩) n c) n xs) {j : Nat} (hj : n * size ≤ j) (u : Value) : (w.setCell ⟨g, j, none⟩ u).ownsRow B t size (.slice (some ⟨g, 0, none⟩) n c) n xs := by
  have h1 := (h.stored j u).1
  rw [List.set_eq_of_length_le (by rw [h.1]; exact hj)] at h1
  exact h1
theorem own_someD {w : World} {B : Nat} {t : TypeId} {size g n c : Nat} {xs : List Value} (h : w.ownsRow B t size (.slice (some ⟨g, 0, none⟩) n c) n xs) {j : Nat} (hj : j < c * size) : (∃ u, w.cell? ⟨g, j, none⟩ = some u) ∧ w.frozen? ⟨g, j, none⟩ = false := by
  refine ⟨?_, h.frozenAt j⟩
  rcases h.2 with ⟨hh, _⟩ | ⟨g', cap', cur, hh, hb, hg, hn, hm, hcs, _⟩
  · cases hh
  · injection hh with h1 h2 h3
    injection h1 with h1
    injection h1 with h1
    subst h1 h3
    rw [cell_of_row w g j cur t (0, 0) hg]
    exact ⟨_, Array.getElem?_eq_getElem (by omega)⟩
theorem own_beyondsD {B : Nat} {t : TypeId} {size g n c : Nat} {xs : List Value} : ∀ (l : List Value) (off : Nat) {w : World}, w.ownsRow B t size (.slice (some ⟨g, 0, none⟩) n c) n xs → n * size ≤ off → (w.setCells g off l).ownsRow B t size (.slice (some ⟨g, 0, none⟩) n c) n xs ∧ Kp (some g) w (w.setCells g off l)
  | [], off, w, h, _ => ⟨h, Kp.refl _ _⟩
  | v :: l, off, w, h, ho => by
    have h1 := own_beyondD h ho v
    obtain ⟨h2, k2⟩ := own_beyondsD l (off + 1) h1 (by omega)
    exact ⟨h2, Kp.trans (Kp.set (Kp.refl _ _) (.inr rfl) _ _) k2⟩
end Go.Proofs.YtlihcjlonafohaaGreat
namespace Go.Proofs.YtlihcjlonafohaaGreat
open Go.RowKit Go.Joins
set_option linter.unusedSimpArgs false
set_option linter.unusedVariables false

/-- The predicate by its contract: in a class of worlds that keeps when the row's block is written. -/
structure PrS (F a B : Nat) (p : ByteArray → Bool) (C : World → Prop) (L : List ByteArray) : Prop where
  kp : ∀ w w' g, C w → Kp (some g) w w' → B ≤ g → C w'
  gr : ∀ w w', C w → Gr w w' → C w'
  call : ∀ s ∈ L, ∀ w, C w → Calls Tryz.prog F #[.string s, .pointer (some ⟨a, 0, none⟩)] w fun e w' => e = .returned (.bool (p s)) ∧ Gr w w'
  eg : ∀ args w, (callFunc F args).run Tryz.prog w = .ok (.enter F args) w
def pcsI (p : ByteArray → Bool) (L : List ByteArray) : Int := if L.findIdx p < L.length then (L.findIdx p : Int) else -1
theorem pcsI_at {p : ByteArray → Bool} {L : List ByteArray} {k : Nat} (hk : k < L.length) (h : p L[k] = true) (hall : ∀ j (hj : j < L.length), j < k → p L[j] = false) : pcsI p L = (k : Int) := by
  have e : L.findIdx p = k := by
    rw [List.findIdx_eq hk]
    exact ⟨h, fun j hj => hall j (by omega) hj⟩
  unfold pcsI
  rw [e, if_pos hk]
theorem pcsI_none {p : ByteArray → Bool} {L : List ByteArray} (hall : ∀ j (hj : j < L.length), p L[j] = false) : pcsI p L = -1 := by
  have e : L.findIdx p = L.length := by
    rw [List.findIdx_eq_length]
    intro x hx
    obtain ⟨i, hi, rfl⟩ := List.mem_iff_getElem.1 hx
    exact hall i hi
  unfold pcsI
  rw [e, if_neg (Nat.lt_irrefl _)]
def ISRel (p : ByteArray → Bool) (L : List ByteArray) (w : World) (i : Value) (wr : World) : Prop :=
  ∃ k : Nat, k ≤ L.length ∧ i = .int .i64 (k : Int) ∧ Gr w wr ∧ ∀ j (hj : j < L.length), j < k → p L[j] = false
set_option maxRecDepth 100000 in
set_option maxHeartbeats 1000000 in
theorem indexS_any (v : Value) (L : List ByteArray) (F a B : Nat) (p : ByteArray → Bool) (C : World → Prop) (w : World) (hv : SV w v L) (hp : PrS F a B p C L) (hc : C w) :
    Calls Tryz.prog 143 #[v, .func (.func F) #[] #[.pointer (some ⟨a, 0, none⟩)]] w fun e w' => e = .returned (.int .i64 (pcsI p L)) ∧ Gr w w' := by
  obtain ⟨A, c, hva, hnc, ⟨hcm, -⟩, hat⟩ := hv
  subst hva
  have hc63 : c ≤ 9223372036854775807 := by unfold maxLen at hcm; omega
  have HAT : Hid (∀ j (hj : j < L.length), ∃ b off, A = some ⟨b, off, none⟩ ∧ w.cell? ⟨b, off + j, none⟩ = some (.string L[j])) := Lib.hid hat
  have HP := Lib.hid hp
  have HCC := Lib.hid hc
  have heg := hp.eg
  obtain ⟨n, hn⟩ : ∃ n, n = L.length := ⟨_, rfl⟩
  rw [← hn] at hnc ⊢
  have HN := Lib.hid hn
  clear hn hp hc hat hcm
  go_enter Tryz.func143, Tryz.ntmps143
  go_wp2_with fail
  go_loopw [8] (fun i wr => ISRel p L w i wr) (fun i _ => n - (intOf i).toNat)
  case atStart => exact ⟨0, Nat.zero_le _, rfl, Gr.refl _, fun j _ h => absurd h (Nat.not_lt_zero _)⟩
  case round =>
    obtain ⟨k, hk, rfl, hgr, hall⟩ := hrel
    rw [← HN.out] at hk
    have HAL := Lib.hid hall
    clear hall
    by_cases hlt : k < n
    · have hkM : k < L.length := by rw [← HN.out]; exact hlt
      obtain ⟨b, off, hA, q0⟩ := HAT.out k hkM
      subst hA
      have c0 := hgr.cell q0
      obtain ⟨f, hf⟩ : ∃ f, f = L[k] := ⟨_, rfl⟩
      rw [← hf] at c0
      have HF := Lib.hid hf
      have hmem : f ∈ L := by rw [hf]; exact List.getElem_mem hkM
      have HC := Lib.hid (HP.out.call f hmem wr (HP.out.gr _ _ HCC.out hgr))
      have hk0 : (0 : Int) ≤ (k : Int) := by omega
      have hk1 : (k : Int) < (n : Int) := by omega
      rcases hq : p f with _ | _
      · rw [hq] at HC
        have HA2 : Hid (∀ j (hj : j < L.length), j < k + 1 → p L[j] = false) := Lib.hid fun j hj hjk => by
          by_cases e : j = k
          · subst e; rw [← HF.out]; exact hq
          · exact HAL.out j hj (by omega)
        clear hq hf q0 hmem
        go_wp2_with fail
        refine HC.out.mono ?_
        rintro e w1 ⟨rfl, g1⟩
        go_wp2_with fail
        go_roundw
        case rel => exact ⟨k + 1, by rw [← HN.out]; omega, by go_num, hgr.trans g1, HA2.out⟩
        case measure => simp [intOf]; omega
      · rw [hq] at HC
        have HI := Lib.hid (pcsI_at hkM (by rw [← HF.out]; exact hq) HAL.out)
        clear hq hf q0 hmem
        go_wp2_with fail
        refine HC.out.mono ?_
        rintro e w1 ⟨rfl, g1⟩
        go_wp2_with fail
        go_ret
        exact ⟨by rw [HI.out]; rfl, hgr.trans g1⟩
    · have HI := Lib.hid (pcsI_none (p := p) (L := L) (fun j hj => HAL.out j hj (by rw [← HN.out] at hj; omega)))
      go_wp2_with fail
      go_ret
      exact ⟨by rw [HI.out]; rfl, hgr⟩
theorem elemSt : Tryz.prog.underlying 34 = some (.slice (Tryz.prog.elem 34)) := by kernel_rfl
theorem sizeSt : ∀ W : World, (sizeOf (Tryz.prog.elem 34)).run Tryz.prog W = .ok 1 W := fun W => by kernel_rfl
def zerosStr (k : Nat) : List Value := (Builtin.zeroCells (Value.string ⟨#[]⟩).cells k).toList
theorem zerosStr_len (k : Nat) : (zerosStr k).length = k := by
  unfold zerosStr
  simp [Builtin.zeroCells, Value.cells]
theorem zerosStr_one (k : Nat) : ∀ v ∈ zerosStr k, v.oneCell' = true := by
  intro v hv
  unfold zerosStr Builtin.zeroCells at hv
  simp only [Value.cells, Array.toList_map, List.mem_map, Array.mem_toList_iff, Array.mem_range] at hv
  obtain ⟨i, _, rfl⟩ := hv
  show Value.oneCell' ((#[Value.string ⟨#[]⟩] : Array Value)[i % 1]!) = true
  rw [Nat.mod_one]
  rfl
theorem run_clear_strs (w : World) (g off k cc : Nat) (hk : 0 < k) (hc : ∀ j, j < k → (w.cell? ⟨g, off + j, none⟩).isSome = true) (hf : ∀ j, j < k → w.frozen? ⟨g, off + j, none⟩ = false) (ty : TypeId) :
    (Builtin.clear_ #[34] ty #[.slice (some ⟨g, off, none⟩) k cc]).run Tryz.prog w = .ok (.tuple #[]) (w.setCells g off (zerosStr k)) := by
  obtain ⟨i0, hi, hz0, hz1, hz2⟩ := info_parts infoString
  have hst := run_storeCells_cells (P := Tryz.prog) g off (zerosStr k) 0 w
    (fun j hj => by rw [Nat.add_zero]; exact hc j (by rw [← zerosStr_len k]; exact hj))
    (fun j hj => by rw [Nat.add_zero]; exact hf j (by rw [← zerosStr_len k]; exact hj))
    (zerosStr_one k)
  simp only [Nat.add_zero] at hst
  have hzv : ∀ w, (zeroValue 9).run Tryz.prog w = .ok (.string ⟨#[]⟩) w := Tryz.zeroValue9
  have hu : (underlying 34).run Tryz.prog w = .ok (.slice 9) w := run_underlying Tryz.underlying34 w
  obtain ⟨k', rfl⟩ : ∃ k', k = k' + 1 := ⟨k - 1, by omega⟩
  unfold zerosStr at hst ⊢
  simp [Builtin.clear_, hu, hzv, hst]
/-- A call's answer: the strings that the predicate leaves, in the same block. -/
def RetLeftS (p : ByteArray → Bool) (L : List ByteArray) (B : Nat) (v : Value) (w : World) (e : Ending) (w' : World) : Prop := ∃ v', e = .returned v' ∧ SO w' B v' (L.filter fun c => !p c) ∧ v'.ownBlock = v.ownBlock ∧ Kp v.ownBlock w w'
structure DStrInv (p : ByteArray → Bool) (L : List ByteArray) (w : World) (B g c i j : Nat) (D : List ByteArray) (wr : World) : Prop where
  row : SO wr B (.slice (some ⟨g, 0, none⟩) L.length c) D
  len : D.length = L.length
  lo : D.take i = (L.take j).filter fun c => !p c
  hi : ∀ m (h : m < L.length), j ≤ m → D[m]'(by rw [len]; exact h) = L[m]
  lt : i < j
  kp : Kp (some g) w wr
theorem filter_head {α : Type} {p : α → Bool} {L : List α} {k : Nat} (hk : k < L.length) (hg : p L[k] = true) (hall : ∀ j (hj : j < L.length), j < k → p L[j] = false) : L.take k = (L.take (k + 1)).filter fun c => !p c := by
  rw [List.take_succ_eq_append_getElem hk, List.filter_append]
  have e1 : (L.take k).filter (fun c => !p c) = L.take k := by
    rw [List.filter_eq_self]
    intro x hx
    obtain ⟨i, hi, rfl⟩ := List.mem_iff_getElem.1 hx
    have hi2 : i < k := by simp at hi; omega
    rw [List.getElem_take]
    rw [hall i (by omega) hi2]
    rfl
  rw [e1]
  simp [hg]
theorem DStrInv.start {p : ByteArray → Bool} {L : List ByteArray} {w wr : World} {B g c k : Nat} (hk : k < L.length) (hg : p L[k] = true) (hall : ∀ j (hj : j < L.length), j < k → p L[j] = false) (hv : SO w B (.slice (some ⟨g, 0, none⟩) L.length c) L) (q : Gr w wr) : DStrInv p L w B g c k (k + 1) L wr :=
  ⟨hv.gr q, rfl, filter_head hk hg hall, fun m h _ => rfl, Nat.lt_succ_self _, Kp.of_gr q⟩
theorem DStrInv.skip {p : ByteArray → Bool} {L : List ByteArray} {w wr w' : World} {B g c i j : Nat} {D : List ByteArray} (h : DStrInv p L w B g c i j D wr) (q : Gr wr w') (hj : j < L.length) (hg : p L[j] = true) : DStrInv p L w B g c i (j + 1) D w' := by
  refine ⟨h.row.gr q, h.len, ?_, fun m hm hjm => h.hi m hm (by omega), by have := h.lt; omega, h.kp.gr q⟩
  rw [h.lo, List.take_succ_eq_append_getElem hj, List.filter_append]
  simp [hg]
theorem DStrInv.keep {p : ByteArray → Bool} {L : List ByteArray} {w wr w' : World} {B g c i j : Nat} {D : List ByteArray} (h : DStrInv p L w B g c i j D wr) (q : Gr wr w') (hj : j < L.length) (hg : p L[j] = false) :
    DStrInv p L w B g c (i + 1) (j + 1) (D.set i L[j]) (w'.setCell ⟨g, i, none⟩ (.string L[j])) := by
  have hlt := h.lt
  have hiD : i < D.length := by rw [h.len]; omega
  refine ⟨(h.row.gr q).setV hiD L[j], by rw [List.length_set]; exact h.len, ?_, fun m hm hjm => ?_, by omega, ((h.kp.gr q).set (.inr rfl) _ _)⟩
  · rw [List.take_succ_eq_append_getElem (by rw [List.length_set]; exact hiD), List.getElem_set_self, List.take_set_of_le (Nat.le_refl _), h.lo, List.take_succ_eq_append_getElem hj, List.filter_append]
    simp [hg]
  · rw [List.getElem_set_ne (by omega)]
    exact h.hi m hm (by omega)
set_option maxRecDepth 100000 in
set_option maxHeartbeats 4000000 in
theorem delS_any (v : Value) (L : List ByteArray) (F a B : Nat) (p : ByteArray → Bool) (C : World → Prop) (w : World) (hv : SO w B v L) (hp : PrS F a B p C L) (hc : C w) :
    Calls Tryz.prog 100 #[v, .func (.func F) #[] #[.pointer (some ⟨a, 0, none⟩)]] w fun e w' => RetLeftS p L B v w e w' := by
  have H1 := Lib.hid (indexS_any v L F a B p C w hv.sv hp hc)
  have HP := Lib.hid hp
  have HCC := Lib.hid hc
  have heg := hp.eg
  clear hp hc
  have HV := Lib.hid hv
  obtain ⟨A, c, rfl, hnc, hc63⟩ := own_form hv
  by_cases hall : ∀ j (hj : j < L.length), p L[j] = false
  · rw [pcsI_none hall] at H1
    have HF : Hid (L.filter (fun c => !p c) = L) := Lib.hid (by
      rw [List.filter_eq_self]
      intro x hx
      obtain ⟨i, hi, rfl⟩ := List.mem_iff_getElem.1 hx
      rw [hall i hi]
      rfl)
    obtain ⟨n, hn⟩ : ∃ n, n = L.length := ⟨_, rfl⟩
    rw [← hn] at H1 HV ⊢
    clear hv hall hn hnc
    go_enter Tryz.func100, Tryz.ntmps100
    go_wp2_with fail
    refine H1.out.mono ?_
    rintro e w1 ⟨rfl, g1⟩
    have HG1 := Lib.hid g1
    clear g1
    go_wp2_with fail
    go_ret
    exact ⟨_, rfl, by rw [HF.out]; exact HV.out.gr HG1.out, rfl, Kp.of_gr HG1.out⟩
  · have hex : ∃ k, ∃ hk : k < L.length, p L[k] = true ∧ ∀ j (hj : j < L.length), j < k → p L[j] = false := by
      have hlt : L.findIdx p < L.length := by
        rcases Nat.lt_or_ge (L.findIdx p) L.length with h | h
        · exact h
        · exfalso
          apply hall
          intro j hj
          have := List.not_of_lt_findIdx (p := p) (xs := L) (i := j) (by omega)
          simpa using this
      refine ⟨L.findIdx p, hlt, List.findIdx_getElem (p := p) (w := hlt), fun j hj hjk => ?_⟩
      have := List.not_of_lt_findIdx (p := p) (xs := L) (i := j) hjk
      simpa using this
    obtain ⟨k, hk, hgk, hbe⟩ := hex
    rw [pcsI_at hk hgk hbe] at H1
    obtain ⟨g, c', hvv⟩ := hv.addrV hk
    injection hvv with h1 h2 h3
    subst h1 h3
    clear h2
    have HGB : Hid (B ≤ g) := Lib.hid hv.lenV.2.2.2.1
    obtain ⟨n, hn⟩ : ∃ n, n = L.length := ⟨_, rfl⟩
    have HN := Lib.hid hn
    have HB := Lib.hid (fun wr (q : Gr w wr) => DStrInv.start (p := p) (B := B) (g := g) (c := c) hk hgk hbe HV.out q)
    have hkn : k < n := by rw [hn]; exact hk
    have hne : ((k : Int) == -1) = false := by rw [beq_eq_false_iff_ne]; omega
    have hne2 : ¬ ((k : Int) = -1) := by omega
    have hc1 : n ≤ c := by rw [hn]; exact hnc
    rw [← hn] at H1 ⊢
    have hwk : IntKind.i64.wrap ((k : Int) + 1) = ((k + 1 : Nat) : Int) := by
      rw [IntKind.wrap_i64]
      omega
    clear hv hall hbe hgk hn hk hnc HV
    go_enter Tryz.func100, Tryz.ntmps100
    go_wp2_with fail
    refine H1.out.mono ?_
    rintro e w1 ⟨rfl, g1⟩
    have HS := Lib.hid (HB.out _ g1)
    clear g1 HB H1
    go_wp2_with fail
    clear hwk
    go_loopg [5, 6, 7] n (fun gg s5 s6 _ wr => ∃ (i j : Nat) (D : List ByteArray), s5 = .int .i64 (i : Int) ∧ s6 = .int .i64 (j : Int) ∧ j ≤ n ∧ n - j ≤ gg ∧ Hid (DStrInv p L w B g c i j D wr))
    case atStart => exact ⟨k, k + 1, L, rfl, by go_num, by omega, by omega, HS⟩
    case round =>
      obtain ⟨i, j, D, rfl, rfl, hjn, hgg, HD⟩ := hrel
      have hij := HD.out.lt
      by_cases hlt : j < n
      · have hjL : j < L.length := by rw [← HN.out]; exact hlt
        have hjD : j < D.length := by rw [HD.out.len]; exact hjL
        have q0 := HD.out.row.atV hjD
        rw [HD.out.hi j hjL (Nat.le_refl _)] at q0
        obtain ⟨f, hf⟩ : ∃ f, f = L[j] := ⟨_, rfl⟩
        rw [← hf] at q0
        have HF := Lib.hid hf
        have hmem : f ∈ L := by rw [hf]; exact List.getElem_mem hjL
        have HC := Lib.hid (HP.out.call f hmem wr (HP.out.kp _ _ _ HCC.out HD.out.kp HGB.out))
        clear hmem
        have hltz : (j : Int) < (n : Int) := by omega
        have hj0 : (0 : Int) ≤ (j : Int) := by omega
        rcases hq : p f with _ | _
        · have HK := Lib.hid (fun w' (q : Gr wr w') => HD.out.keep q hjL (by rw [← HF.out]; exact hq))
          rw [← HF.out] at HK
          have HC2 : Hid (Calls Tryz.prog F #[.string f, .pointer (some ⟨a, 0, none⟩)] wr fun e w' => e = .returned (.bool false) ∧ Gr wr w') := Lib.hid (HC.out.mono fun e w' h => ⟨by rw [h.1, hq], h.2⟩)
          have hi0 : (0 : Int) ≤ (i : Int) := by omega
          have hin : (i : Int) < (n : Int) := by omega
          have hiD : i < D.length := by rw [HD.out.len]; omega
          clear hf hq
          go_wp2_with fail
          refine HC2.out.mono ?_
          rintro e w2 ⟨rfl, g2⟩
          have hrow2 := HD.out.row.gr g2
          obtain ⟨u, hu⟩ : ∃ u, u = D[i] := ⟨_, rfl⟩
          have r0 := hrow2.atV hiD
          rw [← hu] at r0
          have f0 := hrow2.freeV i
          have HN2 := Lib.hid (HK.out w2 g2)
          have hwi : IntKind.i64.wrap ((i : Int) + 1) = ((i + 1 : Nat) : Int) := by
            rw [IntKind.wrap_i64]
            omega
          clear q0 g2 hrow2 HK HC HC2 hu
          go_wp2_with fail
          go_roundg (n - (j + 1))
          case measure => omega
          case rel => exact ⟨i + 1, j + 1, _, by go_num, by go_num, by omega, Nat.le_refl _, HN2⟩
        · have HK := Lib.hid (fun w' (q : Gr wr w') => HD.out.skip q hjL (by rw [← HF.out]; exact hq))
          have HC2 : Hid (Calls Tryz.prog F #[.string f, .pointer (some ⟨a, 0, none⟩)] wr fun e w' => e = .returned (.bool true) ∧ Gr wr w') := Lib.hid (HC.out.mono fun e w' h => ⟨by rw [h.1, hq], h.2⟩)
          clear hf hq
          go_wp2_with fail
          refine HC2.out.mono ?_
          rintro e w2 ⟨rfl, g2⟩
          have HN2 := Lib.hid (HK.out w2 g2)
          clear q0 g2 HK HC HC2
          go_wp2_with fail
          go_roundg (n - (j + 1))
          case measure => omega
          case rel => exact ⟨i, j + 1, _, rfl, by go_num, by omega, Nat.le_refl _, HN2⟩
      · obtain rfl : j = n := by omega
        have hltz : ¬ ((j : Int) < (j : Int)) := by omega
        have hfin : (L.filter fun c => !p c) = D.take i := by
          rw [HD.out.lo, List.take_of_length_le (by rw [← HN.out]; exact Nat.le_refl _)]
        have HFIN := Lib.hid hfin
        have hsf := slice_from_g 34 1 elemSt sizeSt j c i (by omega) (some ⟨g, 0, none⟩)
        have hst := slice_to_g 34 1 elemSt sizeSt j c i (by omega) (some ⟨g, 0, none⟩)
        have hsd : sliced (some ⟨g, 0, none⟩) i j  c 1 = .slice (some ⟨g, i, none⟩) (j - i) (c - i) := by
          unfold sliced
          rw [if_neg (by omega)]
          simp [Addr.add]
          try omega
        rw [hsd] at hsf
        have hrow : wr.ownsRow B 9 1 (.slice (some ⟨g, 0, none⟩) j c) j (D.map Value.string) := by
          have h := HD.out.row
          unfold SO at h
          rw [HD.out.len, ← HN.out] at h
          exact h
        have hpre : SO wr B (.slice (some ⟨g, 0, none⟩) i c) (D.take i) := by
          have h := own_prefix (k := i) hrow (by omega)
          unfold SO
          rw [List.length_take, Nat.min_eq_left (by rw [HD.out.len, ← HN.out]; omega), List.map_take]
          rw [Nat.mul_one] at h
          exact h
        have hpre' := hpre
        unfold SO at hpre'
        rw [List.length_take, Nat.min_eq_left (by rw [HD.out.len, ← HN.out]; omega)] at hpre'
        have hcl := run_clear_strs wr g i (j - i) (c - i) (by omega) (fun m hm => by
          obtain ⟨⟨u, hu⟩, _⟩ := own_someD hrow (j := i + m) (by omega)
          rw [hu]; rfl) (fun m hm => (own_someD hrow (j := i + m) (by omega)).2)
        have hbey := own_beyondsD (zerosStr (j - i)) i hpre' (by omega)
        obtain ⟨W, hW⟩ : ∃ W, W = wr.setCells g i (zerosStr (j - i)) := ⟨_, rfl⟩
        rw [← hW] at hcl hbey
        have HBE : Hid (SO W B (.slice (some ⟨g, 0, none⟩) i c) (D.take i)) := Lib.hid (by unfold SO; rw [List.length_take, Nat.min_eq_left (by rw [HD.out.len, ← HN.out]; omega)]; exact hbey.1)
        have HKP := Lib.hid (HD.out.kp.trans hbey.2)
        have hcl0 := hcl 0
        clear hW hbey hpre hpre' hrow hfin hsd
        go_wp2_with fail
        go_ret
        exact ⟨_, rfl, by rw [HFIN.out]; exact HBE.out, rfl, HKP.out⟩
end Go.Proofs.YtlihcjlonafohaaGreat
