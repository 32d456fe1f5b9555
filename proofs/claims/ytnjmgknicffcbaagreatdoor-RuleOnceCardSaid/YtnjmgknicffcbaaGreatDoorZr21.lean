/- Walks: slices.IndexFunc and slices.DeleteFunc of strings, by a predicate of one captured variable, told by its contract. -/
import Derived.Test.YtnjmgknicffcbaaGreatDoorZr19
import Derived.Test.YtnjmgknicffcbaaGreatDoorZr20
namespace Go.Proofs.YtnjmgknicffcbaaGreatDoor
open Go.RowKit Go.Joins
set_option linter.unusedSimpArgs false
set_option linter.unusedVariables false

/-- The predicate by its contract: in a class of worlds that keeps when the row's block is written. -/
structure PrS (F a B : Nat) (p : ByteArray → Bool) (C : World → Prop) (L : List ByteArray) : Prop where
  kp : ∀ w w' g, C w → Kp (some g) w w' → B ≤ g → C w'
  gr : ∀ w w', C w → Gr w w' → C w'
  call : ∀ s ∈ L, ∀ w, C w → Calls Tryz.prog F #[.string s, .pointer (some ⟨a, 0, none⟩)] w fun e w' => e = .returned (.bool (p s)) ∧ Gr w w'
  eg : ∀ args w, (callFunc F args).run Tryz.prog w = .ok (.enter F args) w
def pcsI (p : ByteArray → Bool) (L : List ByteArray) : Int := if L.findIdx p < L.length then (L.findIdx p : Int) else -1
theorem pcsI_at {p : ByteArray → Bool} {L : List ByteArray} {k : Nat} (hk : k < L.length) (h : p L[k] = true) (hall : ∀ j (hj : j < L.length), j < k → p L[j] = false) : pcsI p L = (k : Int) := by
  have e : L.findIdx p = k := by
    rw [List.findIdx_eq hk]
    exact ⟨h, fun j hj => hall j (by omega) hj⟩
  unfold pcsI
  rw [e, if_pos hk]
theorem pcsI_none {p : ByteArray → Bool} {L : List ByteArray} (hall : ∀ j (hj : j < L.length), p L[j] = false) : pcsI p L = -1 := by
  have e : L.findIdx p = L.length := by
    rw [List.findIdx_eq_length]
    intro x hx
    obtain ⟨i, hi, rfl⟩ := List.mem_iff_getElem.1 hx
    exact hall i hi
  unfold pcsI
  rw [e, if_neg (Nat.lt_irrefl _)]
def ISRel (p : ByteArray → Bool) (L : List ByteArray) (w : World) (i : Value) (wr : World) : Prop :=
  ∃ k : Nat, k ≤ L.length ∧ i = .int .i64 (k : Int) ∧ Gr w wr ∧ ∀ j (hj : j < L.length), j < k → p L[j] = false
set_option maxRecDepth 100000 in
set_option maxHeartbeats 1000000 in
theorem indexS_any (v : Value) (L : List ByteArray) (F a B : Nat) (p : ByteArray → Bool) (C : World → Prop) (w : World) (hv : SV w v L) (hp : PrS F a B p C L) (hc : C w) :
    Calls Tryz.prog 164 #[v, .func (.func F) #[] #[.pointer (some ⟨a, 0, none⟩)]] w fun e w' => e = .returned (.int .i64 (pcsI p L)) ∧ Gr w w' := by
  obtain ⟨A, c, hva, hnc, ⟨hcm, -⟩, hat⟩ := hv
  subst hva
  have hc63 : c ≤ 9223372036854775807 := by unfold maxLen at hcm; omega
  have HAT : Hid (∀ j (hj : j < L.length), ∃ b off, A = some ⟨b, off, none⟩ ∧ w.cell? ⟨b, off + j, none⟩ = some (.string L[j])) := Lib.hid hat
  have HP := Lib.hid hp
  have HCC := Lib.hid hc
  have heg := hp.eg
  obtain ⟨n, hn⟩ : ∃ n, n = L.length := ⟨_, rfl⟩
  rw [← hn] at hnc ⊢
  have HN := Lib.hid hn
  clear hn hp hc hat hcm
  go_enter Tryz.func164, Tryz.ntmps164
  go_wp2_with fail
  go_loopw [8] (fun i wr => ISRel p L w i wr) (fun i _ => n - (intOf i).toNat)
  case atStart => exact ⟨0, Nat.zero_le _, rfl, Gr.refl _, fun j _ h => absurd h (Nat.not_lt_zero _)⟩
  case round =>
    obtain ⟨k, hk, rfl, hgr, hall⟩ := hrel
    rw [← HN.out] at hk
    have HAL := Lib.hid hall
    clear hall
    by_cases hlt : k < n
    · have hkM : k < L.length := by rw [← HN.out]; exact hlt
      obtain ⟨b, off, hA, q0⟩ := HAT.out k hkM
      subst hA
      have c0 := hgr.cell q0
      obtain ⟨f, hf⟩ : ∃ f, f = L[k] := ⟨_, rfl⟩
      rw [← hf] at c0
      have HF := Lib.hid hf
      have hmem : f ∈ L := by rw [hf]; exact List.getElem_mem hkM
      have HC := Lib.hid (HP.out.call f hmem wr (HP.out.gr _ _ HCC.out hgr))
      have hk0 : (0 : Int) ≤ (k : Int) := by omega
      have hk1 : (k : Int) < (n : Int) := by omega
      rcases hq : p f with _ | _
      · rw [hq] at HC
        have HA2 : Hid (∀ j (hj : j < L.length), j < k + 1 → p L[j] = false) := Lib.hid fun j hj hjk => by
          by_cases e : j = k
          · subst e; rw [← HF.out]; exact hq
          · exact HAL.out j hj (by omega)
        clear hq hf q0 hmem
        go_wp2_with fail
        refine HC.out.mono ?_
        rintro e w1 ⟨rfl, g1⟩
        go_wp2_with fail
        go_roundw
        case rel => exact ⟨k + 1, by rw [← HN.out]; omega, by go_num, hgr.trans g1, HA2.out⟩
        case measure => simp [intOf]; omega
      · rw [hq] at HC
        have HI := Lib.hid (pcsI_at hkM (by rw [← HF.out]; exact hq) HAL.out)
        clear hq hf q0 hmem
        go_wp2_with fail
        refine HC.out.mono ?_
        rintro e w1 ⟨rfl, g1⟩
        go_wp2_with fail
        go_ret
        exact ⟨by rw [HI.out]; rfl, hgr.trans g1⟩
    · have HI := Lib.hid (pcsI_none (p := p) (L := L) (fun j hj => HAL.out j hj (by rw [← HN.out] at hj; omega)))
      go_wp2_with fail
      go_ret
      exact ⟨by rw [HI.out]; rfl, hgr⟩
theorem elemSt : Tryz.prog.underlying 93 = some (.slice (Tryz.prog.elem 93)) := by kernel_rfl
theorem sizeSt : ∀ W : World, (sizeOf (Tryz.prog.elem 93)).run Tryz.prog W = .ok 1 W := fun W => by kernel_rfl
def zerosStr (k : Nat) : List Value := (Builtin.zeroCells (Value.string ⟨#[]⟩).cells k).toList
theorem zerosStr_len (k : Nat) : (zerosStr k).length = k := by
  unfold zerosStr
  simp [Builtin.zeroCells, Value.cells]
theorem zerosStr_one (k : Nat) : ∀ v ∈ zerosStr k, v.oneCell' = true := by
  intro v hv
  unfold zerosStr Builtin.zeroCells at hv
  simp only [Value.cells, Array.toList_map, List.mem_map, Array.mem_toList_iff, Array.mem_range] at hv
  obtain ⟨i, _, rfl⟩ := hv
  show Value.oneCell' ((#[Value.string ⟨#[]⟩] : Array Value)[i % 1]!) = true
  rw [Nat.mod_one]
  rfl
theorem run_clear_strs (w : World) (g off k cc : Nat) (hk : 0 < k) (hc : ∀ j, j < k → (w.cell? ⟨g, off + j, none⟩).isSome = true) (hf : ∀ j, j < k → w.frozen? ⟨g, off + j, none⟩ = false) (ty : TypeId) :
    (Builtin.clear_ #[93] ty #[.slice (some ⟨g, off, none⟩) k cc]).run Tryz.prog w = .ok (.tuple #[]) (w.setCells g off (zerosStr k)) := by
  obtain ⟨i0, hi, hz0, hz1, hz2⟩ := info_parts infoString
  have hst := run_storeCells_cells (P := Tryz.prog) g off (zerosStr k) 0 w
    (fun j hj => by rw [Nat.add_zero]; exact hc j (by rw [← zerosStr_len k]; exact hj))
    (fun j hj => by rw [Nat.add_zero]; exact hf j (by rw [← zerosStr_len k]; exact hj))
    (zerosStr_one k)
  simp only [Nat.add_zero] at hst
  have hzv : ∀ w, (zeroValue 9).run Tryz.prog w = .ok (.string ⟨#[]⟩) w := Tryz.zeroValue9
  have hu : (underlying 93).run Tryz.prog w = .ok (.slice 9) w := run_underlying Tryz.underlying93 w
  obtain ⟨k', rfl⟩ : ∃ k', k = k' + 1 := ⟨k - 1, by omega⟩
  unfold zerosStr at hst ⊢
  simp [Builtin.clear_, hu, hzv, hst]
/-- A call's answer: the strings that the predicate leaves, in the same block. -/
def RetLeftS (p : ByteArray → Bool) (L : List ByteArray) (B : Nat) (v : Value) (w : World) (e : Ending) (w' : World) : Prop := ∃ v', e = .returned v' ∧ SO w' B v' (L.filter fun c => !p c) ∧ v'.ownBlock = v.ownBlock ∧ Kp v.ownBlock w w'
structure DStrInv (p : ByteArray → Bool) (L : List ByteArray) (w : World) (B g c i j : Nat) (D : List ByteArray) (wr : World) : Prop where
  row : SO wr B (.slice (some ⟨g, 0, none⟩) L.length c) D
  len : D.length = L.length
  lo : D.take i = (L.take j).filter fun c => !p c
  hi : ∀ m (h : m < L.length), j ≤ m → D[m]'(by rw [len]; exact h) = L[m]
  lt : i < j
  kp : Kp (some g) w wr
theorem filter_head {α : Type} {p : α → Bool} {L : List α} {k : Nat} (hk : k < L.length) (hg : p L[k] = true) (hall : ∀ j (hj : j < L.length), j < k → p L[j] = false) : L.take k = (L.take (k + 1)).filter fun c => !p c := by
  rw [List.take_succ_eq_append_getElem hk, List.filter_append]
  have e1 : (L.take k).filter (fun c => !p c) = L.take k := by
    rw [List.filter_eq_self]
    intro x hx
    obtain ⟨i, hi, rfl⟩ := List.mem_iff_getElem.1 hx
    have hi2 : i < k := by simp at hi; omega
    rw [List.getElem_take]
    rw [hall i (by omega) hi2]
    rfl
  rw [e1]
  simp [hg]
theorem DStrInv.start {p : ByteArray → Bool} {L : List ByteArray} {w wr : World} {B g c k : Nat} (hk : k < L.length) (hg : p L[k] = true) (hall : ∀ j (hj : j < L.length), j < k → p L[j] = false) (hv : SO w B (.slice (some ⟨g, 0, none⟩) L.length c) L) (q : Gr w wr) : DStrInv p L w B g c k (k + 1) L wr :=
  ⟨hv.gr q, rfl, filter_head hk hg hall, fun m h _ => rfl, Nat.lt_succ_self _, Kp.of_gr q⟩
theorem DStrInv.skip {p : ByteArray → Bool} {L : List ByteArray} {w wr w' : World} {B g c i j : Nat} {D : List ByteArray} (h : DStrInv p L w B g c i j D wr) (q : Gr wr w') (hj : j < L.length) (hg : p L[j] = true) : DStrInv p L w B g c i (j + 1) D w' := by
  refine ⟨h.row.gr q, h.len, ?_, fun m hm hjm => h.hi m hm (by omega), by have := h.lt; omega, h.kp.gr q⟩
  rw [h.lo, List.take_succ_eq_append_getElem hj, List.filter_append]
  simp [hg]
theorem DStrInv.keep {p : ByteArray → Bool} {L : List ByteArray} {w wr w' : World} {B g c i j : Nat} {D : List ByteArray} (h : DStrInv p L w B g c i j D wr) (q : Gr wr w') (hj : j < L.length) (hg : p L[j] = false) :
    DStrInv p L w B g c (i + 1) (j + 1) (D.set i L[j]) (w'.setCell ⟨g, i, none⟩ (.string L[j])) := by
  have hlt := h.lt
  have hiD : i < D.length := by rw [h.len]; omega
  refine ⟨(h.row.gr q).setV hiD L[j], by rw [List.length_set]; exact h.len, ?_, fun m hm hjm => ?_, by omega, ((h.kp.gr q).set (.inr rfl) _ _)⟩
  · rw [List.take_succ_eq_append_getElem (by rw [List.length_set]; exact hiD), List.getElem_set_self, List.take_set_of_le (Nat.le_refl _), h.lo, List.take_succ_eq_append_getElem hj, List.filter_append]
    simp [hg]
  · rw [List.getElem_set_ne (by omega)]
    exact h.hi m hm (by omega)
set_option maxRecDepth 100000 in
set_option maxHeartbeats 4000000 in
theorem delS_any (v : Value) (L : List ByteArray) (F a B : Nat) (p : ByteArray → Bool) (C : World → Prop) (w : World) (hv : SO w B v L) (hp : PrS F a B p C L) (hc : C w) :
    Calls Tryz.prog 208 #[v, .func (.func F) #[] #[.pointer (some ⟨a, 0, none⟩)]] w fun e w' => RetLeftS p L B v w e w' := by
  have H1 := Lib.hid (indexS_any v L F a B p C w hv.sv hp hc)
  have HP := Lib.hid hp
  have HCC := Lib.hid hc
  have heg := hp.eg
  clear hp hc
  have HV := Lib.hid hv
  obtain ⟨A, c, rfl, hnc, hc63⟩ := own_form hv
  by_cases hall : ∀ j (hj : j < L.length), p L[j] = false
  · rw [pcsI_none hall] at H1
    have HF : Hid (L.filter (fun c => !p c) = L) := Lib.hid (by
      rw [List.filter_eq_self]
      intro x hx
      obtain ⟨i, hi, rfl⟩ := List.mem_iff_getElem.1 hx
      rw [hall i hi]
      rfl)
    obtain ⟨n, hn⟩ : ∃ n, n = L.length := ⟨_, rfl⟩
    rw [← hn] at H1 HV ⊢
    clear hv hall hn hnc
    go_enter Tryz.func208, Tryz.ntmps208
    go_wp2_with fail
    refine H1.out.mono ?_
    rintro e w1 ⟨rfl, g1⟩
    have HG1 := Lib.hid g1
    clear g1
    go_wp2_with fail
    go_ret
    exact ⟨_, rfl, by rw [HF.out]; exact HV.out.gr HG1.out, rfl, Kp.of_gr HG1.out⟩
  · have hex : ∃ k, ∃ hk : k < L.length, p L[k] = true ∧ ∀ j (hj : j < L.length), j < k → p L[j] = false := by
      have hlt : L.findIdx p < L.length := by
        rcases Nat.lt_or_ge (L.findIdx p) L.length with h | h
        · exact h
        · exfalso
          apply hall
          intro j hj
          have := List.not_of_lt_findIdx (p := p) (xs := L) (i := j) (by omega)
          simpa using this
      refine ⟨L.findIdx p, hlt, List.findIdx_getElem (p := p) (w := hlt), fun j hj hjk => ?_⟩
      have := List.not_of_lt_findIdx (p := p) (xs := L) (i := j) hjk
      simpa using this
    obtain ⟨k, hk, hgk, hbe⟩ := hex
    rw [pcsI_at hk hgk hbe] at H1
    obtain ⟨g, c', hvv⟩ := hv.addrV hk
    injection hvv with h1 h2 h3
    subst h1 h3
    clear h2
    have HGB : Hid (B ≤ g) := Lib.hid hv.lenV.2.2.2.1
    obtain ⟨n, hn⟩ : ∃ n, n = L.length := ⟨_, rfl⟩
    have HN := Lib.hid hn
    have HB := Lib.hid (fun wr (q : Gr w wr) => DStrInv.start (p := p) (B := B) (g := g) (c := c) hk hgk hbe HV.out q)
    have hkn : k < n := by rw [hn]; exact hk
    have hne : ((k : Int) == -1) = false := by rw [beq_eq_false_iff_ne]; omega
    have hne2 : ¬ ((k : Int) = -1) := by omega
    have hc1 : n ≤ c := by rw [hn]; exact hnc
    rw [← hn] at H1 ⊢
    have hwk : IntKind.i64.wrap ((k : Int) + 1) = ((k + 1 : Nat) : Int) := by
      rw [IntKind.wrap_i64]
      omega
    clear hv hall hbe hgk hn hk hnc HV
    go_enter Tryz.func208, Tryz.ntmps208
    go_wp2_with fail
    refine H1.out.mono ?_
    rintro e w1 ⟨rfl, g1⟩
    have HS := Lib.hid (HB.out _ g1)
    clear g1 HB H1
    go_wp2_with fail
    clear hwk
    go_loopg [5, 6, 7] n (fun gg s5 s6 _ wr => ∃ (i j : Nat) (D : List ByteArray), s5 = .int .i64 (i : Int) ∧ s6 = .int .i64 (j : Int) ∧ j ≤ n ∧ n - j ≤ gg ∧ Hid (DStrInv p L w B g c i j D wr))
    case atStart => exact ⟨k, k + 1, L, rfl, by go_num, by omega, by omega, HS⟩
    case round =>
      obtain ⟨i, j, D, rfl, rfl, hjn, hgg, HD⟩ := hrel
      have hij := HD.out.lt
      by_cases hlt : j < n
      · have hjL : j < L.length := by rw [← HN.out]; exact hlt
        have hjD : j < D.length := by rw [HD.out.len]; exact hjL
        have q0 := HD.out.row.atV hjD
        rw [HD.out.hi j hjL (Nat.le_refl _)] at q0
        obtain ⟨f, hf⟩ : ∃ f, f = L[j] := ⟨_, rfl⟩
        rw [← hf] at q0
        have HF := Lib.hid hf
        have hmem : f ∈ L := by rw [hf]; exact List.getElem_mem hjL
        have HC := Lib.hid (HP.out.call f hmem wr (HP.out.kp _ _ _ HCC.out HD.out.kp HGB.out))
        clear hmem
        have hltz : (j : Int) < (n : Int) := by omega
        have hj0 : (0 : Int) ≤ (j : Int) := by omega
        rcases hq : p f with _ | _
        · have HK := Lib.hid (fun w' (q : Gr wr w') => HD.out.keep q hjL (by rw [← HF.out]; exact hq))
          rw [← HF.out] at HK
          have HC2 : Hid (Calls Tryz.prog F #[.string f, .pointer (some ⟨a, 0, none⟩)] wr fun e w' => e = .returned (.bool false) ∧ Gr wr w') := Lib.hid (HC.out.mono fun e w' h => ⟨by rw [h.1, hq], h.2⟩)
          have hi0 : (0 : Int) ≤ (i : Int) := by omega
          have hin : (i : Int) < (n : Int) := by omega
          have hiD : i < D.length := by rw [HD.out.len]; omega
          clear hf hq
          go_wp2_with fail
          refine HC2.out.mono ?_
          rintro e w2 ⟨rfl, g2⟩
          have hrow2 := HD.out.row.gr g2
          obtain ⟨u, hu⟩ : ∃ u, u = D[i] := ⟨_, rfl⟩
          have r0 := hrow2.atV hiD
          rw [← hu] at r0
          have f0 := hrow2.freeV i
          have HN2 := Lib.hid (HK.out w2 g2)
          have hwi : IntKind.i64.wrap ((i : Int) + 1) = ((i + 1 : Nat) : Int) := by
            rw [IntKind.wrap_i64]
            omega
          clear q0 g2 hrow2 HK HC HC2 hu
          go_wp2_with fail
          go_roundg (n - (j + 1))
          case measure => omega
          case rel => exact ⟨i + 1, j + 1, _, by go_num, by go_num, by omega, Nat.le_refl _, HN2⟩
        · have HK := Lib.hid (fun w' (q : Gr wr w') => HD.out.skip q hjL (by rw [← HF.out]; exact hq))
          have HC2 : Hid (Calls Tryz.prog F #[.string f, .pointer (some ⟨a, 0, none⟩)] wr fun e w' => e = .returned (.bool true) ∧ Gr wr w') := Lib.hid (HC.out.mono fun e w' h => ⟨by rw [h.1, hq], h.2⟩)
          clear hf hq
          go_wp2_with fail
          refine HC2.out.mono ?_
          rintro e w2 ⟨rfl, g2⟩
          have HN2 := Lib.hid (HK.out w2 g2)
          clear q0 g2 HK HC HC2
          go_wp2_with fail
          go_roundg (n - (j + 1))
          case measure => omega
          case rel => exact ⟨i, j + 1, _, rfl, by go_num, by omega, Nat.le_refl _, HN2⟩
      · obtain rfl : j = n := by omega
        have hltz : ¬ ((j : Int) < (j : Int)) := by omega
        have hfin : (L.filter fun c => !p c) = D.take i := by
          rw [HD.out.lo, List.take_of_length_le (by rw [← HN.out]; exact Nat.le_refl _)]
        have HFIN := Lib.hid hfin
        have hsf := slice_from_g 93 1 elemSt sizeSt j c i (by omega) (some ⟨g, 0, none⟩)
        have hst := slice_to_g 93 1 elemSt sizeSt j c i (by omega) (some ⟨g, 0, none⟩)
        have hsd : sliced (some ⟨g, 0, none⟩) i j  c 1 = .slice (some ⟨g, i, none⟩) (j - i) (c - i) := by
          unfold sliced
          rw [if_neg (by omega)]
          simp [Addr.add]
          try omega
        rw [hsd] at hsf
        have hrow : wr.ownsRow B 9 1 (.slice (some ⟨g, 0, none⟩) j c) j (D.map Value.string) := by
          have h := HD.out.row
          unfold SO at h
          rw [HD.out.len, ← HN.out] at h
          exact h
        have hpre : SO wr B (.slice (some ⟨g, 0, none⟩) i c) (D.take i) := by
          have h := own_prefix (k := i) hrow (by omega)
          unfold SO
          rw [List.length_take, Nat.min_eq_left (by rw [HD.out.len, ← HN.out]; omega), List.map_take]
          rw [Nat.mul_one] at h
          exact h
        have hpre' := hpre
        unfold SO at hpre'
        rw [List.length_take, Nat.min_eq_left (by rw [HD.out.len, ← HN.out]; omega)] at hpre'
        have hcl := run_clear_strs wr g i (j - i) (c - i) (by omega) (fun m hm => by
          obtain ⟨⟨u, hu⟩, _⟩ := own_someD hrow (j := i + m) (by omega)
          rw [hu]; rfl) (fun m hm => (own_someD hrow (j := i + m) (by omega)).2)
        have hbey := own_beyondsD (zerosStr (j - i)) i hpre' (by omega)
        obtain ⟨W, hW⟩ : ∃ W, W = wr.setCells g i (zerosStr (j - i)) := ⟨_, rfl⟩
        rw [← hW] at hcl hbey
        have HBE : Hid (SO W B (.slice (some ⟨g, 0, none⟩) i c) (D.take i)) := Lib.hid (by unfold SO; rw [List.length_take, Nat.min_eq_left (by rw [HD.out.len, ← HN.out]; omega)]; exact hbey.1)
        have HKP := Lib.hid (HD.out.kp.trans hbey.2)
        have hcl0 := hcl 0
        clear hW hbey hpre hpre' hrow hfin hsd
        go_wp2_with fail
        go_ret
        exact ⟨_, rfl, by rw [HFIN.out]; exact HBE.out, rfl, HKP.out⟩
end Go.Proofs.YtnjmgknicffcbaaGreatDoor
