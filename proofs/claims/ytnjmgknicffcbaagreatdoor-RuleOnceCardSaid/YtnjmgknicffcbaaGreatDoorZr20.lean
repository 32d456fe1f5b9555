/- Walks: slices.BinarySearch of rising strings. Walks: slices.IndexFunc and slices.DeleteFunc of deeds, by the predicate that unseen hands them. -/
import Derived.Test.YtnjmgknicffcbaaGreatDoorZr19
import Derived.Deep.LoopGhost
import Derived.Test.YtnjmgknicffcbaaGreatDoorZr18
namespace Go.Proofs.YtnjmgknicffcbaaGreatDoor
open Go.RowKit Go.Joins
set_option linter.unusedSimpArgs false
set_option linter.unusedVariables false

theorem nan_str (s : ByteArray) (w : World) : Calls Tryz.prog 187 #[.string s] w fun e w' => e = .returned (.bool false) ∧ w' = w := by
  have h1 : (s.toList != s.toList) = false := by simp
  have h2 : (s.toList == s.toList) = true := by simp
  go_enter Tryz.func187, Tryz.ntmps187
  go_wp2
  go_ret
  exact ⟨by simp, rfl⟩
theorem nan_strS (s : ByteArray) (w : World) : Calls Tryz.prog 166 #[.string s] w fun e w' => e = .returned (.bool false) ∧ w' = w := by
  have h1 : (s.toList != s.toList) = false := by simp
  have h2 : (s.toList == s.toList) = true := by simp
  go_enter Tryz.func166, Tryz.ntmps166
  go_wp2
  go_ret
  exact ⟨by simp, rfl⟩
set_option maxRecDepth 100000 in
theorem less_str (a b : ByteArray) (w : World) : Calls Tryz.prog 165 #[.string a, .string b] w fun e w' => e = .returned (.bool (lessS a b)) ∧ w' = w := by
  obtain ⟨r, hr⟩ : ∃ r, r = lessS a b := ⟨_, rfl⟩
  have h3 : Go.Op.bytesLess a.toList b.toList = r := hr.symm
  rw [← hr]
  clear hr
  have HN := Lib.hid (fun w1 => nan_str a w1)
  go_enter Tryz.func165, Tryz.ntmps165
  go_wp2_with fail
  refine (HN.out _).mono ?_
  rintro e w1 ⟨rfl, rfl⟩
  go_wp2_with fail
  go_ret
  exact ⟨rfl, rfl⟩
/-- Of a rising list: below the place all are less, from it on none. -/
def BsAt (G : List ByteArray) (s : ByteArray) (lo hi : Nat) : Prop := lo ≤ hi ∧ hi ≤ G.length ∧ (∀ j (hj : j < G.length), j < lo → lessS G[j] s = true) ∧ (∀ j (hj : j < G.length), hi ≤ j → lessS G[j] s = false)
theorem risingS_at {G : List ByteArray} (h : RisingS G) {i j : Nat} (hij : i < j) (hj : j < G.length) : lessS (G[i]'(by omega)) G[j] = true := List.pairwise_iff_getElem.1 h i j (by omega) hj hij
theorem BsAt.up {G : List ByteArray} {s : ByteArray} {lo hi m : Nat} (h : BsAt G s lo hi) (hr : RisingS G) (h1 : lo ≤ m) (h2 : m < hi) (hl : lessS (G[m]'(by have := h.2.1; omega)) s = true) : BsAt G s (m + 1) hi := by
  refine ⟨by omega, h.2.1, fun j hj hjm => ?_, h.2.2.2⟩
  rcases Nat.lt_or_eq_of_le (Nat.le_of_lt_succ hjm) with c | c
  · exact lessS_trans (risingS_at hr c (by have := h.2.1; omega)) hl
  · subst c; exact hl
theorem BsAt.down {G : List ByteArray} {s : ByteArray} {lo hi m : Nat} (h : BsAt G s lo hi) (hr : RisingS G) (h1 : lo ≤ m) (h2 : m < hi) (hl : lessS (G[m]'(by have := h.2.1; omega)) s = false) : BsAt G s lo m := by
  refine ⟨h1, by have := h.2.1; omega, h.2.2.1, fun j hj hjm => ?_⟩
  rcases Nat.lt_or_eq_of_le hjm with c | c
  · rw [Bool.eq_false_iff]
    intro k
    have := lessS_trans (risingS_at hr c hj) k
    rw [hl] at this
    cases this
  · subst c; exact hl
/-- Does the string stand in the list? -/
def memS (G : List ByteArray) (s : ByteArray) : Bool := G.any fun x => decide (x = s)
theorem memS_iff {G : List ByteArray} {s : ByteArray} : memS G s = true ↔ s ∈ G := by
  unfold memS
  rw [List.any_eq_true]
  constructor
  · rintro ⟨x, hx, e⟩
    have e := of_decide_eq_true e
    subst e
    exact hx
  · exact fun h => ⟨s, h, decide_eq_true rfl⟩
theorem BsAt.mem {G : List ByteArray} {s : ByteArray} {k : Nat} (h : BsAt G s k k) (hr : RisingS G) : memS G s = decide (G[k]? = some s) := by
  by_cases hm : s ∈ G
  · obtain ⟨j, hj, e⟩ := List.mem_iff_getElem.1 hm
    have hjk : j = k := by
      rcases Nat.lt_trichotomy j k with c | c | c
      · have := h.2.2.1 j hj c
        rw [e, lessS_irrefl] at this
        cases this
      · exact c
      · exfalso
        have h1 := h.2.2.2 k (by omega) (Nat.le_refl _)
        rw [← e, risingS_at hr c hj] at h1
        cases h1
    subst hjk
    rw [memS_iff.2 hm, decide_eq_true (by rw [List.getElem?_eq_getElem hj, e])]
  · rw [Bool.eq_false_iff.2 (fun k => hm (memS_iff.1 k))]
    symm
    rw [decide_eq_false_iff_not]
    intro e
    obtain ⟨hk, e⟩ := List.getElem?_eq_some_iff.1 e
    exact hm (by rw [← e]; exact List.getElem_mem hk)
set_option maxRecDepth 100000 in
set_option maxHeartbeats 4000000 in
theorem binS_any (v : Value) (G : List ByteArray) (s : ByteArray) (w : World) (hv : SV w v G) (hr : RisingS G) (hlen : G.length < 4611686018427387904) :
    Calls Tryz.prog 142 #[v, .string s] w fun e w' => ∃ i : Int, e = .returned (.tuple #[.int .i64 i, .bool (memS G s)]) ∧ Gr w w' := by
  obtain ⟨A, c, hva, hnc, ⟨hcm, -⟩, hat⟩ := hv
  subst hva
  have HAT : Hid (∀ j (hj : j < G.length), ∃ b off, A = some ⟨b, off, none⟩ ∧ w.cell? ⟨b, off + j, none⟩ = some (.string G[j])) := Lib.hid hat
  have HR := Lib.hid hr
  have HL := Lib.hid (fun a w1 => less_str a s w1)
  have HNS := Lib.hid (fun a w1 => nan_strS a w1)
  obtain ⟨n, hn⟩ : ∃ n, n = G.length := ⟨_, rfl⟩
  rw [← hn] at hnc hlen ⊢
  have HN := Lib.hid hn
  have HB0 : Hid (BsAt G s 0 n) := Lib.hid ⟨Nat.zero_le _, by rw [hn]; exact Nat.le_refl _, fun j _ h => absurd h (Nat.not_lt_zero _), fun j hj h => by omega⟩
  clear hn hat hr hcm
  go_enter Tryz.func142, Tryz.ntmps142
  go_wp2
  go_loopg [7, 8] n (fun gg s7 s8 wr => ∃ lo hi : Nat, s7 = .int .i64 lo ∧ s8 = .int .i64 hi ∧ hi - lo ≤ gg ∧ Hid (BsAt G s lo hi ∧ Gr w wr))
  case atStart => exact ⟨0, n, rfl, rfl, by omega, Lib.hid ⟨HB0.out, Gr.refl _⟩⟩
  case round =>
    obtain ⟨lo, hi, rfl, rfl, hg, hst⟩ := hrel
    have hlh := hst.out.1.1
    have hin : hi ≤ n := by rw [HN.out]; exact hst.out.1.2.1
    by_cases hlt : lo < hi
    · obtain ⟨m, hm⟩ : ∃ m, m = (lo + hi) / 2 := ⟨_, rfl⟩
      have hm1 : lo ≤ m := by omega
      have hm2 : m < hi := by omega
      have hmG : m < G.length := by have := HN.out; omega
      obtain ⟨b, off, hA, q0⟩ := HAT.out m hmG
      subst hA
      have q1 := hst.out.2.cell q0
      obtain ⟨y, hy⟩ : ∃ y, y = G[m] := ⟨_, rfl⟩
      rw [← hy] at q1
      have em : ((lo : Int) + (hi : Int)) / 2 = (m : Int) := by omega
      have HL2 := Lib.hid (HL.out y wr)
      rcases hl : lessS y s with _ | _
      · rw [hl] at HL2
        have HD : Hid (BsAt G s lo m ∧ Gr w wr) := Lib.hid ⟨hst.out.1.down HR.out hm1 hm2 (by rw [← hy]; exact hl), hst.out.2⟩
        have HM := Lib.hid hm
        clear hy q0 hl hst hm
        go_wp2_with fail
        refine HL2.out.mono ?_
        rintro e w1 ⟨rfl, rfl⟩
        go_wp2_with fail
        go_roundg (m - lo)
        case measure => omega
        case rel => exact ⟨lo, m, rfl, rfl, Nat.le_refl _, HD⟩
      · rw [hl] at HL2
        have HD : Hid (BsAt G s (m + 1) hi ∧ Gr w wr) := Lib.hid ⟨hst.out.1.up HR.out hm1 hm2 (by rw [← hy]; exact hl), hst.out.2⟩
        have HM := Lib.hid hm
        clear hy q0 hl hst hm
        go_wp2_with fail
        refine HL2.out.mono ?_
        rintro e w1 ⟨rfl, rfl⟩
        go_wp2_with fail
        go_roundg (hi - (m + 1))
        case measure => omega
        case rel => exact ⟨m + 1, hi, by go_num, rfl, Nat.le_refl _, HD⟩
    · have e : hi = lo := by omega
      subst e
      have HME := Lib.hid (hst.out.1.mem HR.out)
      have HGW := Lib.hid hst.out.2
      by_cases hln : hi < n
      · have hhG : hi < G.length := by rw [← HN.out]; exact hln
        obtain ⟨b, off, hA, q0⟩ := HAT.out hi hhG
        subst hA
        have q1 := hst.out.2.cell q0
        obtain ⟨y, hy⟩ : ∃ y, y = G[hi] := ⟨_, rfl⟩
        rw [← hy] at q1
        have hge : G[hi]? = some y := by rw [List.getElem?_eq_getElem hhG, hy]
        rw [hge] at HME
        have HN2 := Lib.hid (HNS.out y wr)
        by_cases hys : y = s
        · have HE : Hid (memS G s = true) := Lib.hid (by rw [HME.out, hys]; exact decide_eq_true rfl)
          have p1 : (y.toList == s.toList) = true := by rw [hys]; simp
          clear hge hy q0 hst HME hys
          go_wp2_with fail
          go_ret2
          exact ⟨(hi : Int), by rw [HE.out]; rfl, HGW.out⟩
        · have HE : Hid (memS G s = false) := Lib.hid (by rw [HME.out]; exact decide_eq_false fun h => hys (Option.some.inj h))
          have p1 : (y.toList == s.toList) = false := by
            have := eqS_ne hys
            unfold eqS at this
            exact this
          clear hge hy q0 hst HME hys
          go_wp2_with fail
          refine HN2.out.mono ?_
          rintro e w1 ⟨rfl, rfl⟩
          go_wp2_with fail
          go_ret2
          exact ⟨(hi : Int), by rw [HE.out]; rfl, HGW.out⟩
      · have HE : Hid (memS G s = false) := Lib.hid (by
          rw [HME.out]
          refine decide_eq_false fun h => ?_
          rw [List.getElem?_eq_none (by rw [← HN.out]; omega)] at h
          cases h)
        clear hst HME
        go_wp2_with fail
        go_ret2
        exact ⟨(hi : Int), by rw [HE.out]; rfl, HGW.out⟩
end Go.Proofs.YtnjmgknicffcbaaGreatDoor
namespace Go.Proofs.YtnjmgknicffcbaaGreatDoor
open Go.RowKit Go.Joins
set_option linter.unusedSimpArgs false
set_option linter.unusedVariables false

/-- The predicate by its contract: in a class of worlds that keeps when the row's block is written. -/
structure PrP (B a b : Nat) (p : DD → Bool) (C : World → Prop) (L : List DD) : Prop where
  kp : ∀ w w' g, C w → Kp (some g) w w' → B ≤ g → C w'
  gr : ∀ w w', C w → Gr w w' → C w'
  call : ∀ d ∈ L, ∀ w, C w → Calls Tryz.prog 205 #[.agg #[.pointer (some ⟨d.b, d.o, none⟩), .int .i64 (d.i : Int)], .pointer (some ⟨a, 0, none⟩), .pointer (some ⟨b, 0, none⟩)] w fun e w' => e = .returned (.bool (p d)) ∧ Gr w w'
/-- Where the first stand stands that the cut counts. -/
def pckN (p : DD → Bool) (L : List DD) : Nat := L.findIdx fun c => p c
def pckI (p : DD → Bool) (L : List DD) : Int := if pckN p L < L.length then (pckN p L : Int) else -1
theorem pckI_at {p : DD → Bool} {L : List DD} {k : Nat} (hk : k < L.length) (h : p L[k] = true) (hall : ∀ j (hj : j < L.length), j < k → p L[j] = false) : pckI p L = (k : Int) ∧ pckN p L = k := by
  have e : pckN p L = k := by
    unfold pckN
    rw [List.findIdx_eq hk]
    exact ⟨h, fun j hj => hall j (by omega) hj⟩
  unfold pckI
  rw [e, if_pos hk]
  exact ⟨rfl, rfl⟩
theorem pckI_none {p : DD → Bool} {L : List DD} (hall : ∀ j (hj : j < L.length), p L[j] = false) : pckI p L = -1 := by
  have e : pckN p L = L.length := by
    unfold pckN
    rw [List.findIdx_eq_length]
    intro x hx
    obtain ⟨i, hi, rfl⟩ := List.mem_iff_getElem.1 hx
    exact hall i hi
  unfold pckI
  rw [e, if_neg (Nat.lt_irrefl _)]
section
variable {w : World} {B g n c : Nat} {L : List DD}
theorem DO.len (h : DO w B (.slice (some ⟨g, 0, none⟩) n c) L) : n = L.length ∧ L.length ≤ c ∧ c ≤ 9223372036854775807 ∧ B ≤ g ∧ g < w.heap.size := by
  rcases h.2 with ⟨hh, _⟩ | ⟨g', cap', cur, hh, hb, hg, hn, hm, _⟩
  · cases hh
  · injection hh with h1 h2 h3
    injection h1 with h1
    injection h1 with h1
    subst h1 h2 h3
    exact ⟨rfl, hn, hm, hb, (Array.getElem?_eq_some_iff.1 hg).1⟩
theorem DO.free (h : DO w B (.slice (some ⟨g, 0, none⟩) n c) L) (j : Nat) : w.frozen? ⟨g, j, none⟩ = false := by
  obtain ⟨rfl, _⟩ := h.len
  exact h.frozenAt j
theorem DO.addr {v : Value} (h : DO w B v L) {i : Nat} (hi : i < L.length) : ∃ g c, v = .slice (some ⟨g, 0, none⟩) L.length c := by
  obtain ⟨g, c, hv, _⟩ := World.ownsRow.form h (by omega)
  exact ⟨g, c, hv⟩
theorem DO.store (h : DO w B (.slice (some ⟨g, 0, none⟩) n c) L) {i r : Nat} (hi : i < L.length) (hr : r < 2) (f : DD) (u : Value) (hf : dcell f = (dcell L[i]).set r u) :
    DO (w.setCell ⟨g, i * 2 + r, none⟩ u) B (.slice (some ⟨g, 0, none⟩) n c) (L.set i f) := by
  obtain ⟨rfl, _⟩ := h.len
  obtain ⟨h1, _⟩ := World.ownsRow.stored (h : w.ownsRow B 225 2 (.slice (some ⟨g, 0, none⟩) L.length c) L.length (dcells L)) (i * 2 + r) u
  unfold DO
  rw [List.length_set]
  have : dcells (L.set i f) = (dcells L).set (i * 2 + r) u := (rows_set dcell 2 dcell_len L i r hi hr f u hf).symm
  rw [this]
  exact h1
theorem DO.put2 (h : DO w B (.slice (some ⟨g, 0, none⟩) n c) L) {i : Nat} (hi : i < L.length) (f : DD) :
    DO ((w.setCell ⟨g, i * 2, none⟩ (.pointer (some ⟨f.b, f.o, none⟩))).setCell ⟨g, i * 2 + 1, none⟩ (.int .i64 (f.i : Int))) B (.slice (some ⟨g, 0, none⟩) n c) (L.set i f) := by
  have h1 := h.store hi (r := 0) (by decide) ⟨f.b, f.o, f.t, L[i].i⟩ (.pointer (some ⟨f.b, f.o, none⟩)) rfl
  have h2 := h1.store (i := i) (by rw [List.length_set]; exact hi) (r := 1) (by decide) f (.int .i64 (f.i : Int)) (by rw [List.getElem_set_self]; rfl)
  rw [List.set_set] at h2
  exact h2
theorem DO.at_ (h : DO w B (.slice (some ⟨g, 0, none⟩) n c) L) {i : Nat} (hi : i < L.length) : w.cell? ⟨g, i * 2, none⟩ = some (.pointer (some ⟨L[i].b, L[i].o, none⟩)) ∧ w.cell? ⟨g, i * 2 + 1, none⟩ = some (.int .i64 (L[i].i : Int)) := by
  obtain ⟨A, c', hv, _, _, hc⟩ := h.dv
  obtain ⟨b, off, ha, q0, q1⟩ := hc i hi
  injection hv with e1
  rw [← e1] at ha
  injection ha with ha
  injection ha with a1 a2
  subst a1 a2
  rw [Nat.zero_add] at q0 q1
  exact ⟨q0, q1⟩
end
def IPRel (p : DD → Bool) (L : List DD) (w : World) (i : Value) (wr : World) : Prop :=
  ∃ k : Nat, k ≤ L.length ∧ i = .int .i64 (k : Int) ∧ Gr w wr ∧ ∀ j (hj : j < L.length), j < k → p L[j] = false
set_option maxRecDepth 100000 in
set_option maxHeartbeats 1000000 in
theorem indexP_any (v : Value) (L : List DD) (B pa pb : Nat) (p : DD → Bool) (C : World → Prop) (w : World) (hv : DO w B v L) (hp : PrP B pa pb p C L) (hc : C w) :
    Calls Tryz.prog 220 #[v, .func (.func 205) #[] #[.pointer (some ⟨pa, 0, none⟩), .pointer (some ⟨pb, 0, none⟩)]] w fun e w' => e = .returned (.int .i64 (pckI p L)) ∧ Gr w w' := by
  obtain ⟨A, c, hva, hnc, hc63⟩ := own_form hv
  subst hva
  have HV := Lib.hid hv
  have HP := Lib.hid hp
  have HCC := Lib.hid hc
  obtain ⟨n, hn⟩ : ∃ n, n = L.length := ⟨_, rfl⟩
  rw [← hn] at HV hnc ⊢
  have HN := Lib.hid hn
  clear hv hn hp hc
  go_enter Tryz.func220, Tryz.ntmps220
  go_wp2_with fail
  go_loopw [8] (fun i wr => IPRel p L w i wr) (fun i _ => n - (intOf i).toNat)
  case atStart => exact ⟨0, Nat.zero_le _, rfl, Gr.refl _, fun j _ h => absurd h (Nat.not_lt_zero _)⟩
  case round =>
    obtain ⟨k, hk, rfl, hgr, hall⟩ := hrel
    rw [← HN.out] at hk
    have HAL := Lib.hid hall
    clear hall
    by_cases hlt : k < n
    · have hkM : k < L.length := by rw [← HN.out]; exact hlt
      obtain ⟨g, cc, hvv⟩ := HV.out.addr hkM
      injection hvv with h1 h2 h3
      subst h1 h3
      clear h2
      obtain ⟨q0, q1⟩ := HV.out.at_ hkM
      have c0 := hgr.cell q0
      have c1' := hgr.cell q1
      obtain ⟨f, hf⟩ : ∃ f, f = L[k] := ⟨_, rfl⟩
      rw [← hf] at c0 c1'
      have HF := Lib.hid hf
      have hmem : f ∈ L := by rw [hf]; exact List.getElem_mem hkM
      have HC := Lib.hid (HP.out.call f hmem wr (HP.out.gr _ _ HCC.out hgr))
      rcases hq : p f with _ | _
      · rw [hq] at HC
        have HA2 : Hid (∀ j (hj : j < L.length), j < k + 1 → p L[j] = false) := Lib.hid fun j hj hjk => by
          by_cases e : j = k
          · subst e; rw [← HF.out]; exact hq
          · exact HAL.out j hj (by omega)
        clear hq hf q0 q1 hmem
        go_wp2_with fail
        refine HC.out.mono ?_
        rintro e w1 ⟨rfl, g1⟩
        go_wp2_with fail
        go_roundw
        case rel => exact ⟨k + 1, by rw [← HN.out]; omega, by go_num, hgr.trans g1, HA2.out⟩
        case measure => simp [intOf]; omega
      · rw [hq] at HC
        have HI := Lib.hid (pckI_at hkM (by rw [← HF.out]; exact hq) HAL.out).1
        clear hq hf q0 q1 hmem
        go_wp2_with fail
        refine HC.out.mono ?_
        rintro e w1 ⟨rfl, g1⟩
        go_wp2_with fail
        go_ret
        exact ⟨by rw [HI.out]; rfl, hgr.trans g1⟩
    · have HI := Lib.hid (pckI_none (p := p) (L := L) (fun j hj => HAL.out j hj (by rw [← HN.out] at hj; omega)))
      go_wp2_with fail
      go_ret
      exact ⟨by rw [HI.out]; rfl, hgr⟩
theorem elemDd : Tryz.prog.underlying 199 = some (.slice (Tryz.prog.elem 199)) := by kernel_rfl
theorem sizeDd : ∀ W : World, (sizeOf (Tryz.prog.elem 199)).run Tryz.prog W = .ok 2 W := fun W => by kernel_rfl
def zerosD2 (k : Nat) : List Value := (Builtin.zeroCells (Value.agg #[.pointer none, .int .i64 0]).cells k).toList
theorem zerosD2_len (k : Nat) : (zerosD2 k).length = k * 2 := by
  unfold zerosD2
  simp [Builtin.zeroCells, Value.cells]
theorem zerosD2_one (k : Nat) : ∀ v ∈ zerosD2 k, v.oneCell' = true := by
  intro v hv
  unfold zerosD2 Builtin.zeroCells at hv
  simp only [Value.cells, Array.toList_map, List.mem_map, Array.mem_toList_iff, Array.mem_range] at hv
  obtain ⟨i, _, rfl⟩ := hv
  have h3 : i % 2 < 2 := Nat.mod_lt _ (by decide)
  show Value.oneCell' ((#[Value.pointer none, Value.int .i64 0] : Array Value)[i % 2]!) = true
  obtain h | h : i % 2 = 0 ∨ i % 2 = 1 := by omega
  all_goals rw [h]; rfl
/-- The clearing of what lies behind a row's beginning. -/
theorem run_clear_deeds (w : World) (g off k cc : Nat) (hk : 0 < k) (hc : ∀ j, j < k * 2 → (w.cell? ⟨g, off + j, none⟩).isSome = true) (hf : ∀ j, j < k * 2 → w.frozen? ⟨g, off + j, none⟩ = false) (ty : TypeId) :
    (Builtin.clear_ #[199] ty #[.slice (some ⟨g, off, none⟩) k cc]).run Tryz.prog w = .ok (.tuple #[]) (w.setCells g off (zerosD2 k)) := by
  obtain ⟨i0, hi, hz0, hz1, hz2⟩ := info_parts infoDeed
  have hst := run_storeCells_cells (P := Tryz.prog) g off (zerosD2 k) 0 w
    (fun j hj => by rw [Nat.add_zero]; exact hc j (by rw [← zerosD2_len]; exact hj))
    (fun j hj => by rw [Nat.add_zero]; exact hf j (by rw [← zerosD2_len]; exact hj))
    (zerosD2_one k)
  simp only [Nat.add_zero] at hst
  have hzv : ∀ w, (zeroValue 225).run Tryz.prog w = .ok (.agg #[.pointer none, .int .i64 0]) w := fun w => by
    simp [zeroValue, typeInfo, hi, hz0]
  have hu : (underlying 199).run Tryz.prog w = .ok (.slice 225) w := run_underlying Tryz.underlying199 w
  obtain ⟨k', rfl⟩ : ∃ k', k = k' + 1 := ⟨k - 1, by omega⟩
  unfold zerosD2 at hst ⊢
  simp [Builtin.clear_, hu, hzv, hst]
theorem own_beyondD {w : World} {B : Nat} {t : TypeId} {size g n c : Nat} {xs : List Value} (h : w.ownsRow B t size (.slice (some ⟨g, 0, none⟩) n c) n xs) {j : Nat} (hj : n * size ≤ j) (u : Value) : (w.setCell ⟨g, j, none⟩ u).ownsRow B t size (.slice (some ⟨g, 0, none⟩) n c) n xs := by
  have h1 := (h.stored j u).1
  rw [List.set_eq_of_length_le (by rw [h.1]; exact hj)] at h1
  exact h1
theorem own_someD {w : World} {B : Nat} {t : TypeId} {size g n c : Nat} {xs : List Value} (h : w.ownsRow B t size (.slice (some ⟨g, 0, none⟩) n c) n xs) {j : Nat} (hj : j < c * size) : (∃ u, w.cell? ⟨g, j, none⟩ = some u) ∧ w.frozen? ⟨g, j, none⟩ = false := by
  refine ⟨?_, h.frozenAt j⟩
  rcases h.2 with ⟨hh, _⟩ | ⟨g', cap', cur, hh, hb, hg, hn, hm, hcs, _⟩
  · cases hh
  · injection hh with h1 h2 h3
    injection h1 with h1
    injection h1 with h1
    subst h1 h3
    rw [cell_of_row w g j cur t (0, 0) hg]
    exact ⟨_, Array.getElem?_eq_getElem (by omega)⟩
theorem own_beyondsD {B : Nat} {t : TypeId} {size g n c : Nat} {xs : List Value} : ∀ (l : List Value) (off : Nat) {w : World}, w.ownsRow B t size (.slice (some ⟨g, 0, none⟩) n c) n xs → n * size ≤ off → (w.setCells g off l).ownsRow B t size (.slice (some ⟨g, 0, none⟩) n c) n xs ∧ Kp (some g) w (w.setCells g off l)
  | [], off, w, h, _ => ⟨h, Kp.refl _ _⟩
  | v :: l, off, w, h, ho => by
    have h1 := own_beyondD h ho v
    obtain ⟨h2, k2⟩ := own_beyondsD l (off + 1) h1 (by omega)
    exact ⟨h2, Kp.trans (Kp.set (Kp.refl _ _) (.inr rfl) _ _) k2⟩
/-- A call's answer: the stands that the cut doesn't count, in the same block. -/
def RetLeftD (p : DD → Bool) (L : List DD) (B : Nat) (v : Value) (w : World) (e : Ending) (w' : World) : Prop := ∃ v', e = .returned v' ∧ DO w' B v' (L.filter fun c => !p c) ∧ v'.ownBlock = v.ownBlock ∧ Kp v.ownBlock w w'
structure DPInv (p : DD → Bool) (L : List DD) (w : World) (B g c i j : Nat) (D : List DD) (wr : World) : Prop where
  row : DO wr B (.slice (some ⟨g, 0, none⟩) L.length c) D
  len : D.length = L.length
  lo : D.take i = (L.take j).filter fun c => !p c
  hi : ∀ m (h : m < L.length), j ≤ m → D[m]'(by rw [len]; exact h) = L[m]
  lt : i < j
  kp : Kp (some g) w wr
theorem DPInv.start {p : DD → Bool} {L : List DD} {w wr : World} {B g c k : Nat} (hk : k < L.length) (hg : p L[k] = true) (hall : ∀ j (hj : j < L.length), j < k → p L[j] = false) (hv : DO w B (.slice (some ⟨g, 0, none⟩) L.length c) L) (q : Gr w wr) : DPInv p L w B g c k (k + 1) L wr := by
  refine ⟨hv.gr q, rfl, ?_, fun m h _ => rfl, Nat.lt_succ_self _, Kp.of_gr q⟩
  rw [List.take_succ_eq_append_getElem hk, List.filter_append]
  have e1 : (L.take k).filter (fun c => !p c) = L.take k := by
    rw [List.filter_eq_self]
    intro x hx
    obtain ⟨i, hi, rfl⟩ := List.mem_iff_getElem.1 hx
    have hi2 : i < k := by simp at hi; omega
    rw [List.getElem_take]
    rw [hall i (by omega) hi2]
    rfl
  rw [e1]
  simp [hg]
theorem DPInv.skip {p : DD → Bool} {L : List DD} {w wr w' : World} {B g c i j : Nat} {D : List DD} (h : DPInv p L w B g c i j D wr) (q : Gr wr w') (hj : j < L.length) (hg : p L[j] = true) : DPInv p L w B g c i (j + 1) D w' := by
  refine ⟨h.row.gr q, h.len, ?_, fun m hm hjm => h.hi m hm (by omega), by have := h.lt; omega, h.kp.gr q⟩
  rw [h.lo, List.take_succ_eq_append_getElem hj, List.filter_append]
  simp [hg]
theorem DPInv.keep {p : DD → Bool} {L : List DD} {w wr w' : World} {B g c i j : Nat} {D : List DD} (h : DPInv p L w B g c i j D wr) (q : Gr wr w') (hj : j < L.length) (hg : p L[j] = false) :
    DPInv p L w B g c (i + 1) (j + 1) (D.set i L[j]) ((w'.setCell ⟨g, i * 2, none⟩ (.pointer (some ⟨L[j].b, L[j].o, none⟩))).setCell ⟨g, i * 2 + 1, none⟩ (.int .i64 (L[j].i : Int))) := by
  have hlt := h.lt
  have hiD : i < D.length := by rw [h.len]; omega
  refine ⟨(h.row.gr q).put2 hiD L[j], by rw [List.length_set]; exact h.len, ?_, fun m hm hjm => ?_, by omega, (((h.kp.gr q).set (.inr rfl) _ _).set (.inr rfl) _ _)⟩
  · rw [List.take_succ_eq_append_getElem (by rw [List.length_set]; exact hiD), List.getElem_set_self, List.take_set_of_le (Nat.le_refl _), h.lo, List.take_succ_eq_append_getElem hj, List.filter_append]
    simp [hg]
  · rw [List.getElem_set_ne (by omega)]
    exact h.hi m hm (by omega)
theorem filter_noneD {p : DD → Bool} {L : List DD} (hall : ∀ j (hj : j < L.length), p L[j] = false) : L.filter (fun c => !p c) = L := by
  rw [List.filter_eq_self]
  intro x hx
  obtain ⟨i, hi, rfl⟩ := List.mem_iff_getElem.1 hx
  rw [hall i hi]
  rfl
set_option maxRecDepth 100000 in
set_option maxHeartbeats 4000000 in
theorem delP_any (v : Value) (L : List DD) (B pa pb : Nat) (p : DD → Bool) (C : World → Prop) (w : World) (hv : DO w B v L) (hp : PrP B pa pb p C L) (hc : C w) :
    Calls Tryz.prog 204 #[v, .func (.func 205) #[] #[.pointer (some ⟨pa, 0, none⟩), .pointer (some ⟨pb, 0, none⟩)]] w fun e w' => RetLeftD p L B v w e w' := by
  have H1 := Lib.hid (indexP_any v L B pa pb p C w hv hp hc)
  have HP := Lib.hid hp
  have HCC := Lib.hid hc
  clear hp hc
  have HV := Lib.hid hv
  obtain ⟨A, c, rfl, hnc, hc63⟩ := own_form hv
  by_cases hall : ∀ j (hj : j < L.length), p L[j] = false
  · rw [pckI_none hall] at H1
    have HF := Lib.hid (filter_noneD hall)
    obtain ⟨n, hn⟩ : ∃ n, n = L.length := ⟨_, rfl⟩
    rw [← hn] at H1 HV ⊢
    clear hv hall hn hnc
    go_enter Tryz.func204, Tryz.ntmps204
    go_wp2_with fail
    refine H1.out.mono ?_
    rintro e w1 ⟨rfl, g1⟩
    have HG1 := Lib.hid g1
    clear g1
    go_wp2_with fail
    go_ret
    exact ⟨_, rfl, by rw [HF.out]; exact HV.out.gr HG1.out, rfl, Kp.of_gr HG1.out⟩
  · have hex : ∃ k, ∃ hk : k < L.length, p L[k] = true ∧ ∀ j (hj : j < L.length), j < k → p L[j] = false := by
      have hlt : pckN p L < L.length := by
        rcases Nat.lt_or_ge (pckN p L) L.length with h | h
        · exact h
        · exfalso
          apply hall
          intro j hj
          have := List.not_of_lt_findIdx (p := fun c : DD => p c) (xs := L) (i := j) (by unfold pckN at h; omega)
          simpa using this
      refine ⟨pckN p L, hlt, List.findIdx_getElem (p := fun c : DD => p c) (w := hlt), fun j hj hjk => ?_⟩
      have := List.not_of_lt_findIdx (p := fun c : DD => p c) (xs := L) (i := j) hjk
      simpa using this
    obtain ⟨k, hk, hgk, hbe⟩ := hex
    rw [(pckI_at hk hgk hbe).1] at H1
    obtain ⟨g, c', hvv⟩ := hv.addr hk
    injection hvv with h1 h2 h3
    subst h1 h3
    clear h2
    have HGB : Hid (B ≤ g) := Lib.hid hv.len.2.2.2.1
    obtain ⟨n, hn⟩ : ∃ n, n = L.length := ⟨_, rfl⟩
    have HN := Lib.hid hn
    have HB := Lib.hid (fun wr (q : Gr w wr) => DPInv.start (p := p) (B := B) (g := g) (c := c) hk hgk hbe HV.out q)
    have hkn : k < n := by rw [hn]; exact hk
    have hne : ((k : Int) == -1) = false := by rw [beq_eq_false_iff_ne]; omega
    have hne2 : ¬ ((k : Int) = -1) := by omega
    have hc1 : n ≤ c := by rw [hn]; exact hnc
    rw [← hn] at H1 ⊢
    have hwk : IntKind.i64.wrap ((k : Int) + 1) = ((k + 1 : Nat) : Int) := by
      rw [IntKind.wrap_i64]
      omega
    clear hv hall hbe hgk hn hk hnc HV
    go_enter Tryz.func204, Tryz.ntmps204
    go_wp2_with fail
    refine H1.out.mono ?_
    rintro e w1 ⟨rfl, g1⟩
    have HS := Lib.hid (HB.out _ g1)
    clear g1 HB H1
    go_wp2_with fail
    clear hwk
    go_loopg [5, 6, 7] n (fun gg s5 s6 _ wr => ∃ (i j : Nat) (D : List DD), s5 = .int .i64 (i : Int) ∧ s6 = .int .i64 (j : Int) ∧ j ≤ n ∧ n - j ≤ gg ∧ Hid (DPInv p L w B g c i j D wr))
    case atStart => exact ⟨k, k + 1, L, rfl, by go_num, by omega, by omega, HS⟩
    case round =>
      obtain ⟨i, j, D, rfl, rfl, hjn, hgg, HD⟩ := hrel
      have hij := HD.out.lt
      by_cases hlt : j < n
      · have hjL : j < L.length := by rw [← HN.out]; exact hlt
        have hjD : j < D.length := by rw [HD.out.len]; exact hjL
        obtain ⟨q0, q1⟩ := HD.out.row.at_ hjD
        rw [HD.out.hi j hjL (Nat.le_refl _)] at q0 q1
        obtain ⟨f, hf⟩ : ∃ f, f = L[j] := ⟨_, rfl⟩
        rw [← hf] at q0 q1
        have HF := Lib.hid hf
        obtain ⟨W, hW⟩ : ∃ W, W = wr.alloc (.cells #[.pointer (some ⟨f.b, f.o, none⟩), .int .i64 (f.i : Int)] 225) := ⟨_, rfl⟩
        have HGW : Hid (Gr wr W) := Lib.hid (by rw [hW]; exact gr_box _ _)
        have hmem : f ∈ L := by rw [hf]; exact List.getElem_mem hjL
        have hpr := HP.out.gr _ _ (HP.out.kp _ _ _ HCC.out HD.out.kp HGB.out) HGW.out
        have HC := Lib.hid (HP.out.call f hmem W hpr)
        clear hpr hmem
        have HX : Hid (W.heap[wr.heap.size]? = some (.cells #[.pointer (some ⟨f.b, f.o, none⟩), .int .i64 (f.i : Int)] 225 (0, 0))) := Lib.hid (by rw [hW]; exact heap_alloc_new wr _)
        have x0 := obj_cell HX.out (i := 0) rfl
        have x1 := obj_cell HX.out (i := 1) rfl
        have hltz : (j : Int) < (n : Int) := by omega
        have hj0 : (0 : Int) ≤ (j : Int) := by omega
        rcases hq : p f with _ | _
        · have HQ := Lib.hid hq
          have HK := Lib.hid (fun w' (q : Gr wr w') => HD.out.keep q hjL (by rw [← HF.out]; exact hq))
          rw [← HF.out] at HK
          have HC2 : Hid (Calls Tryz.prog 205 #[.agg #[.pointer (some ⟨f.b, f.o, none⟩), .int .i64 (f.i : Int)], .pointer (some ⟨pa, 0, none⟩), .pointer (some ⟨pb, 0, none⟩)] W fun e w' => e = .returned (.bool false) ∧ Gr W w') := Lib.hid (HC.out.mono fun e w' h => ⟨by rw [h.1, hq], h.2⟩)
          have hi0 : (0 : Int) ≤ (i : Int) := by omega
          have hin : (i : Int) < (n : Int) := by omega
          have hiD : i < D.length := by rw [HD.out.len]; omega
          clear hf hq
          go_wp2_with fail
          rw [← hW]
          clear hW q0 q1
          refine HC2.out.mono ?_
          rintro e w2 ⟨rfl, g2⟩
          have hg2 := HGW.out.trans g2
          have y0 := g2.cell x0
          have y1 := g2.cell x1
          have hrow2 := HD.out.row.gr hg2
          obtain ⟨r0, r1⟩ := hrow2.at_ hiD
          have f0 := hrow2.free (i * 2)
          have f1 := hrow2.free (i * 2 + 1)
          have HN2 := Lib.hid (HK.out w2 hg2)
          have hwi : IntKind.i64.wrap ((i : Int) + 1) = ((i + 1 : Nat) : Int) := by
            rw [IntKind.wrap_i64]
            omega
          clear x0 x1 g2 hg2 hrow2 HX HGW HK HC HC2
          go_wp2_with fail
          go_roundg (n - (j + 1))
          case measure => omega
          case rel => exact ⟨i + 1, j + 1, _, by go_num, by go_num, by omega, Nat.le_refl _, HN2⟩
        · have HK := Lib.hid (fun w' (q : Gr wr w') => HD.out.skip q hjL (by rw [← HF.out]; exact hq))
          have HC2 : Hid (Calls Tryz.prog 205 #[.agg #[.pointer (some ⟨f.b, f.o, none⟩), .int .i64 (f.i : Int)], .pointer (some ⟨pa, 0, none⟩), .pointer (some ⟨pb, 0, none⟩)] W fun e w' => e = .returned (.bool true) ∧ Gr W w') := Lib.hid (HC.out.mono fun e w' h => ⟨by rw [h.1, hq], h.2⟩)
          clear hf hq
          go_wp2_with fail
          rw [← hW]
          clear hW q0 q1
          refine HC2.out.mono ?_
          rintro e w2 ⟨rfl, g2⟩
          have HN2 := Lib.hid (HK.out w2 (HGW.out.trans g2))
          clear x0 x1 g2 HX HGW HK HC HC2
          go_wp2_with fail
          go_roundg (n - (j + 1))
          case measure => omega
          case rel => exact ⟨i, j + 1, _, rfl, by go_num, by omega, Nat.le_refl _, HN2⟩
      · obtain rfl : j = n := by omega
        have hltz : ¬ ((j : Int) < (j : Int)) := by omega
        have hfin : (L.filter fun c => !p c) = D.take i := by
          rw [HD.out.lo, List.take_of_length_le (by rw [← HN.out]; exact Nat.le_refl _)]
        have HFIN := Lib.hid hfin
        have hsf := slice_from_g 199 2 elemDd sizeDd j c i (by omega) (some ⟨g, 0, none⟩)
        have hst := slice_to_g 199 2 elemDd sizeDd j c i (by omega) (some ⟨g, 0, none⟩)
        have hsd : sliced (some ⟨g, 0, none⟩) i j  c 2 = .slice (some ⟨g, i * 2, none⟩) (j - i) (c - i) := by
          unfold sliced
          rw [if_neg (by omega)]
          simp [Addr.add]
          try omega
        rw [hsd] at hsf
        have hrow : wr.ownsRow B 225 2 (.slice (some ⟨g, 0, none⟩) j c) j (dcells D) := by
          have h := HD.out.row
          unfold DO at h
          rw [HD.out.len, ← HN.out] at h
          exact h
        have hpre : DO wr B (.slice (some ⟨g, 0, none⟩) i c) (D.take i) := by
          have h := own_prefix (k := i) hrow (by omega)
          unfold DO
          rw [List.length_take, Nat.min_eq_left (by rw [HD.out.len, ← HN.out]; omega)]
          unfold dcells at h ⊢
          rw [rows_take dcell 2 dcell_len] at h
          exact h
        have hpre' := hpre
        unfold DO at hpre'
        rw [List.length_take, Nat.min_eq_left (by rw [HD.out.len, ← HN.out]; omega)] at hpre'
        have hcl := run_clear_deeds wr g (i * 2) (j - i) (c - i) (by omega) (fun m hm => by
          obtain ⟨⟨u, hu⟩, _⟩ := own_someD hrow (j := i * 2 + m) (by omega)
          rw [hu]; rfl) (fun m hm => (own_someD hrow (j := i * 2 + m) (by omega)).2)
        have hbey := own_beyondsD (zerosD2 (j - i)) (i * 2) hpre' (Nat.le_refl _)
        obtain ⟨W, hW⟩ : ∃ W, W = wr.setCells g (i * 2) (zerosD2 (j - i)) := ⟨_, rfl⟩
        rw [← hW] at hcl hbey
        have HBE : Hid (DO W B (.slice (some ⟨g, 0, none⟩) i c) (D.take i)) := Lib.hid (by unfold DO; rw [List.length_take, Nat.min_eq_left (by rw [HD.out.len, ← HN.out]; omega)]; exact hbey.1)
        have HKP := Lib.hid (HD.out.kp.trans hbey.2)
        have hcl0 := hcl 0
        clear hW hbey hpre hpre' hrow hfin hsd
        go_wp2_with fail
        go_ret
        exact ⟨_, rfl, by rw [HFIN.out]; exact HBE.out, rfl, HKP.out⟩
end Go.Proofs.YtnjmgknicffcbaaGreatDoor
