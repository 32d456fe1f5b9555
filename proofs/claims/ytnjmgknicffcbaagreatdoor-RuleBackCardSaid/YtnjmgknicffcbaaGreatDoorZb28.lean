/- Walks: value's rising. Walks: slices.BinarySearch of rising strings. -/
import Derived.Test.YtnjmgknicffcbaaGreatDoorZb18
import Derived.Test.YtnjmgknicffcbaaGreatDoorZb27
import Derived.Deep.LoopGhost
namespace Go.Proofs.YtnjmgknicffcbaaGreatDoor
open Go.RowKit Go.Joins
set_option linter.unusedSimpArgs false
set_option linter.unusedVariables false

theorem mades : ∀ n, (madeCells (Value.string ⟨#[]⟩).cells n).toList = (List.replicate n (⟨#[]⟩ : ByteArray)).map Value.string := by
  intro n
  apply List.ext_getElem?
  intro j
  by_cases hj : j < n
  · simp [madeCells, hj, Value.cells, Nat.mod_one]
  · simp [madeCells, hj]
theorem make_strs (n : Nat) (hn : 16 * n ≤ 281474976710656) (W : World) : ∃ W', (Instr.makeSlice 93 (.int .i64 (n : Int)) (.int .i64 (n : Int))).run Tryz.prog W = .ok (.slice (some ⟨W.heap.size, 0, none⟩) n n) W' ∧
    SO W' W.heap.size (.slice (some ⟨W.heap.size, 0, none⟩) n n) (List.replicate n ⟨#[]⟩) ∧ Gr W W' := by
  obtain ⟨i0, hi, hz0, hz1, hz2⟩ := info_parts infoString
  obtain ⟨w', h1, h2, h3⟩ := run_make_full (P := Tryz.prog) W W.heap.size 93 9 i0 _ 1 Tryz.underlying93 hi hz0 hz1 .i64 .i64 n (by rw [hz2]; exact hn) (by unfold maxLen; omega) (Nat.le_refl _)
  rw [Nat.mul_one, mades] at h2
  refine ⟨w', h1, ?_, ⟨h3.1, h3.2, h3.3, h3.4, fun k hk => h3.5 k hk (by intro e; cases e)⟩⟩
  unfold SO
  rw [List.length_replicate]
  exact h2
theorem SO.setV {w : World} {B g n c : Nat} {L : List ByteArray} (h : SO w B (.slice (some ⟨g, 0, none⟩) n c) L) {i : Nat} (hi : i < L.length) (s : ByteArray) : SO (w.setCell ⟨g, i, none⟩ (.string s)) B (.slice (some ⟨g, 0, none⟩) n c) (L.set i s) := by
  obtain ⟨rfl, _⟩ := h.lenV
  obtain ⟨h1, _⟩ := h.stored i (.string s)
  have e : (L.map Value.string).set i (.string s) = (L.set i s).map Value.string := by rw [List.map_set]
  rw [e] at h1
  unfold SO
  rw [List.length_set]
  exact h1
/-- A row that is being filled: the first j are there. -/
def fillE (T : List ByteArray) (j : Nat) : List ByteArray := T.take j ++ List.replicate (T.length - j) ⟨#[]⟩
theorem fillE_zero (T : List ByteArray) : fillE T 0 = List.replicate T.length ⟨#[]⟩ := by simp [fillE]
theorem fillE_all (T : List ByteArray) : fillE T T.length = T := by simp [fillE]
theorem fillE_len (T : List ByteArray) {j : Nat} (h : j ≤ T.length) : (fillE T j).length = T.length := by simp [fillE]; omega
theorem fillE_next {T : List ByteArray} {j : Nat} (h : j < T.length) : (fillE T j).set j T[j] = fillE T (j + 1) := by
  unfold fillE
  have e : T.take (j + 1) = T.take j ++ [T[j]] := by rw [List.take_add_one, List.getElem?_eq_getElem h]; rfl
  rw [List.set_append_right _ _ (by simp; omega), List.length_take, Nat.min_eq_left (by omega), Nat.sub_self, show T.length - j = (T.length - (j + 1)) + 1 by omega, List.replicate_succ, List.set_cons_zero, e, List.append_assoc]
  rfl
theorem Kp.gr_of {r : Option Nat} {w a b : World} (g : Gr w a) (k : Kp r a b) (hr : ∀ q, r = some q → w.heap.size ≤ q) : Gr w b := Below.trans g (k.below g.size hr)
def elemsD (D : List DD) : List ByteArray := D.map fun d => d.op.elem
theorem elemsD_len (D : List DD) : (elemsD D).length = D.length := List.length_map _
theorem run_field_e (k : Int) (a b : ByteArray) (n : Int) (W : World) : (Instr.field 52 (.agg #[.int .i64 k, .string a, .string b, .int .i64 n]) 2).run Tryz.prog W = .ok (.string b) W := by kernel_rfl

set_option maxRecDepth 100000 in
set_option maxHeartbeats 4000000 in
theorem risingV_any (v : Value) (D : List DD) (w : World) (h : DV w v D) (hx : DXs w D) (hlen : D.length ≤ 65536) (hs : ∀ d ∈ D, d.op.elem.size ≤ 281474976710656) :
    Calls Tryz.prog 182 #[v] w fun e w' => RetStrsV (riseT (elemsD D)) w e w' := by
  have HX := Lib.hid hx
  obtain ⟨A, c, hvf, hnc, ⟨hcm, -⟩, hat⟩ := h
  subst hvf
  have HAT : Hid (∀ j (hj : j < D.length), ∃ b off, A = some ⟨b, off, none⟩ ∧ DCell w b (off + j * 2) D[j]) := Lib.hid hat
  have HL : Hid (∀ s ∈ elemsD D, s.size ≤ 281474976710656) := Lib.hid (by
    intro s hsm
    obtain ⟨d, hd, rfl⟩ := List.mem_map.1 hsm
    exact hs d hd)
  obtain ⟨n, hn⟩ : ∃ n, n = D.length := ⟨_, rfl⟩
  have HN := Lib.hid hn
  rw [← hn] at hnc hlen ⊢
  obtain ⟨W1, hmk, hso, hg1⟩ := make_strs n (by omega) w
  have HSO : Hid (SO W1 w.heap.size (.slice (some ⟨w.heap.size, 0, none⟩) n n) (fillE (elemsD D) 0)) := Lib.hid (by rw [fillE_zero, elemsD_len, ← HN.out]; exact hso)
  have HG1 := Lib.hid hg1
  clear hx hat hs hn hso hg1 hcm
  go_enter Tryz.func182, Tryz.ntmps182
  go_wp2_with fail
  clear hmk
  go_loopw [11] (fun i wr => ∃ j : Nat, j ≤ n ∧ i = .int .i64 j ∧ Hid (SO wr w.heap.size (.slice (some ⟨w.heap.size, 0, none⟩) n n) (fillE (elemsD D) j) ∧ Gr w wr)) (fun i _ => n - (intOf i).toNat)
  case atStart => exact ⟨0, Nat.zero_le _, rfl, Lib.hid ⟨HSO.out, HG1.out⟩⟩
  case round =>
    obtain ⟨j, hj, rfl, hst⟩ := hrel
    rename World => wr
    by_cases hjn : j < n
    · have hj0 : (0 : Int) ≤ (j : Int) := Int.natCast_nonneg _
      have hjn1 : (j : Int) < (n : Int) := by omega
      have hjl : j < D.length := by rw [← HN.out]; exact hjn
      obtain ⟨b, off, hA, hc0⟩ := HAT.out j hjl
      subst hA
      obtain ⟨d, hd⟩ : ∃ d, d = D[j] := ⟨_, rfl⟩
      rw [← hd] at hc0
      obtain ⟨c0, c1⟩ := hc0.gr hst.out.2
      have hdx : DX w d := HX.out d (by rw [hd]; exact List.getElem_mem hjl)
      obtain ⟨W5, hW5, hg5, y0, y1⟩ := dbox wr d
      have HOP := Lib.hid (fun w1 (g : Gr W5 w1) => dop_any d w1 ((hdx.gr (hst.out.2.trans hg5)).gr g))
      have hel : d.op.elem = (elemsD D)[j]'(by rw [elemsD_len]; exact hjl) := by
        unfold elemsD
        rw [List.getElem_map, hd]
      obtain ⟨kd, hkd⟩ : ∃ x, x = d.op.kind := ⟨_, rfl⟩
      obtain ⟨db, hdb⟩ : ∃ x, x = d.b := ⟨_, rfl⟩
      obtain ⟨dk, hdk⟩ : ∃ x, x = d.o := ⟨_, rfl⟩
      obtain ⟨di, hdi⟩ : ∃ x, x = d.i := ⟨_, rfl⟩
      obtain ⟨ok, hok⟩ : ∃ x, x = d.op.key := ⟨_, rfl⟩
      obtain ⟨oe, hoe⟩ : ∃ x, x = d.op.elem := ⟨_, rfl⟩
      obtain ⟨on, hon⟩ : ∃ x, x = d.op.n := ⟨_, rfl⟩
      rw [← hdb, ← hdk, ← hdi] at HOP
      unfold opv at HOP
      rw [← hkd, ← hok, ← hoe, ← hon] at HOP
      rw [← hdb, ← hdk] at c0 y0
      rw [← hdi] at c1 y1
      rw [← hdb, ← hdk, ← hdi] at hW5
      have HST5 : Hid (SO W5 w.heap.size (.slice (some ⟨w.heap.size, 0, none⟩) n n) (fillE (elemsD D) j) ∧ Gr w W5) := Lib.hid ⟨hst.out.1.gr hg5, hst.out.2.trans hg5⟩
      have HNX : Hid ((fillE (elemsD D) j).set j oe = fillE (elemsD D) (j + 1)) := Lib.hid (by rw [hoe, hel]; exact fillE_next (by rw [elemsD_len]; exact hjl))
      have HLE : Hid (j < (fillE (elemsD D) j).length) := Lib.hid (by rw [fillE_len _ (by rw [elemsD_len]; omega), elemsD_len]; exact hjl)
      clear hc0 hdx hg5 hst hd hkd hdb hdk hdi hok hoe hon hel
      go_upto_region 5 with (fail)
      rw [← hW5]
      clear hW5 c0 c1
      go_wp2_with fail
      refine (HOP.out _ (Gr.refl _)).mono ?_
      rintro e w6 ⟨rfl, g6⟩
      have hfl := fun W => run_field_e kd ok oe on W
      have ho6 := HST5.out.1.gr g6
      obtain ⟨u, hu⟩ : ∃ u, u = (fillE (elemsD D) j)[j]'HLE.out := ⟨_, rfl⟩
      have q0 := ho6.atV HLE.out
      rw [← hu] at q0
      have k0 := ho6.freeV j
      have HS6 : Hid (SO (w6.setCell ⟨w.heap.size, j, none⟩ (.string oe)) w.heap.size (.slice (some ⟨w.heap.size, 0, none⟩) n n) (fillE (elemsD D) (j + 1)) ∧ Gr w (w6.setCell ⟨w.heap.size, j, none⟩ (.string oe))) := Lib.hid ⟨by rw [← HNX.out]; exact ho6.setV HLE.out oe, (HST5.out.2.trans g6).setCell (Nat.le_refl _) _⟩
      clear g6 y0 y1 ho6 hu
      go_wp2_with fail
      go_roundw
      case measure => simp [intOf]; omega
      case rel => exact ⟨j + 1, by omega, by go_num, HS6⟩
    · obtain rfl : j = n := by omega
      have ho := hst.out.1
      have e1 : fillE (elemsD D) j = elemsD D := by
        have := fillE_all (elemsD D)
        rw [elemsD_len, ← HN.out] at this
        exact this
      rw [e1] at ho
      have HSR := Lib.hid (sortS_any _ _ _ _ ho (by rw [elemsD_len, ← HN.out]; omega))
      have HG := Lib.hid hst.out.2
      clear hst ho e1
      go_wp2_with fail
      refine HSR.out.mono ?_
      rintro e w2 ⟨rfl, ho2, k2⟩
      have hg2 := Kp.gr_of HG.out k2 (fun q hq => by injection hq with hq; subst hq; exact Nat.le_refl _)
      have HCR := Lib.hid (compS_any _ _ _ _ ho2 (by rw [sortT_len, elemsD_len, ← HN.out]; omega))
      have HG2 := Lib.hid hg2
      clear k2 hg2 ho2
      go_wp2_with fail
      refine HCR.out.mono ?_
      rintro e w3 ⟨v3, rfl, ho3, hb3, k3⟩
      have HG3 := Lib.hid (Kp.gr_of HG2.out k3 (fun q hq => by injection hq with hq; subst hq; exact Nat.le_refl _))
      rw [compT_sort] at ho3
      have HCP := Lib.hid (copiesV_any v3 _ w3 ho3.sv (by have := riseT_len (elemsD D); rw [elemsD_len, ← HN.out] at this; omega) (fun s hsm => HL.out s (mem_riseT.1 hsm)))
      obtain ⟨A3, c3, hs3, -, -⟩ := own_form ho3
      subst hs3
      obtain ⟨m3, hm3⟩ : ∃ m, m = (riseT (elemsD D)).length := ⟨_, rfl⟩
      rw [← hm3] at HCP ⊢
      clear k3 ho3 hb3 hm3
      go_wp2_with fail
      refine HCP.out.mono ?_
      rintro e w4 ⟨v4, rfl, ho4, g4⟩
      have HO4 := Lib.hid ho4
      obtain ⟨A4, c4, hs4, -, -⟩ := own_form ho4
      subst hs4
      clear ho4
      obtain ⟨m4, hm4⟩ : ∃ m, m = (riseT (elemsD D)).length := ⟨_, rfl⟩
      rw [← hm4] at HO4 ⊢
      have HM4 := Lib.hid hm4
      clear hm4
      go_wp2_with fail
      go_ret
      exact ⟨_, rfl, HO4.out.le HG3.out.size, HG3.out.trans g4⟩
end Go.Proofs.YtnjmgknicffcbaaGreatDoor
namespace Go.Proofs.YtnjmgknicffcbaaGreatDoor
open Go.RowKit Go.Joins
set_option linter.unusedSimpArgs false
set_option linter.unusedVariables false

theorem nan_str (s : ByteArray) (w : World) : Calls Tryz.prog 187 #[.string s] w fun e w' => e = .returned (.bool false) ∧ w' = w := by
  have h1 : (s.toList != s.toList) = false := by simp
  have h2 : (s.toList == s.toList) = true := by simp
  go_enter Tryz.func187, Tryz.ntmps187
  go_wp2
  go_ret
  exact ⟨by simp, rfl⟩
theorem nan_strS (s : ByteArray) (w : World) : Calls Tryz.prog 166 #[.string s] w fun e w' => e = .returned (.bool false) ∧ w' = w := by
  have h1 : (s.toList != s.toList) = false := by simp
  have h2 : (s.toList == s.toList) = true := by simp
  go_enter Tryz.func166, Tryz.ntmps166
  go_wp2
  go_ret
  exact ⟨by simp, rfl⟩
set_option maxRecDepth 100000 in
theorem less_str (a b : ByteArray) (w : World) : Calls Tryz.prog 165 #[.string a, .string b] w fun e w' => e = .returned (.bool (lessS a b)) ∧ w' = w := by
  obtain ⟨r, hr⟩ : ∃ r, r = lessS a b := ⟨_, rfl⟩
  have h3 : Go.Op.bytesLess a.toList b.toList = r := hr.symm
  rw [← hr]
  clear hr
  have HN := Lib.hid (fun w1 => nan_str a w1)
  go_enter Tryz.func165, Tryz.ntmps165
  go_wp2_with fail
  refine (HN.out _).mono ?_
  rintro e w1 ⟨rfl, rfl⟩
  go_wp2_with fail
  go_ret
  exact ⟨rfl, rfl⟩
/-- Of a rising list: below the place all are less, from it on none. -/
def BsAt (G : List ByteArray) (s : ByteArray) (lo hi : Nat) : Prop := lo ≤ hi ∧ hi ≤ G.length ∧ (∀ j (hj : j < G.length), j < lo → lessS G[j] s = true) ∧ (∀ j (hj : j < G.length), hi ≤ j → lessS G[j] s = false)
theorem risingS_at {G : List ByteArray} (h : RisingS G) {i j : Nat} (hij : i < j) (hj : j < G.length) : lessS (G[i]'(by omega)) G[j] = true := List.pairwise_iff_getElem.1 h i j (by omega) hj hij
theorem BsAt.up {G : List ByteArray} {s : ByteArray} {lo hi m : Nat} (h : BsAt G s lo hi) (hr : RisingS G) (h1 : lo ≤ m) (h2 : m < hi) (hl : lessS (G[m]'(by have := h.2.1; omega)) s = true) : BsAt G s (m + 1) hi := by
  refine ⟨by omega, h.2.1, fun j hj hjm => ?_, h.2.2.2⟩
  rcases Nat.lt_or_eq_of_le (Nat.le_of_lt_succ hjm) with c | c
  · exact lessS_trans (risingS_at hr c (by have := h.2.1; omega)) hl
  · subst c; exact hl
theorem BsAt.down {G : List ByteArray} {s : ByteArray} {lo hi m : Nat} (h : BsAt G s lo hi) (hr : RisingS G) (h1 : lo ≤ m) (h2 : m < hi) (hl : lessS (G[m]'(by have := h.2.1; omega)) s = false) : BsAt G s lo m := by
  refine ⟨h1, by have := h.2.1; omega, h.2.2.1, fun j hj hjm => ?_⟩
  rcases Nat.lt_or_eq_of_le hjm with c | c
  · rw [Bool.eq_false_iff]
    intro k
    have := lessS_trans (risingS_at hr c hj) k
    rw [hl] at this
    cases this
  · subst c; exact hl
/-- Does the string stand in the list? -/
def memS (G : List ByteArray) (s : ByteArray) : Bool := G.any fun x => decide (x = s)
theorem memS_iff {G : List ByteArray} {s : ByteArray} : memS G s = true ↔ s ∈ G := by
  unfold memS
  rw [List.any_eq_true]
  constructor
  · rintro ⟨x, hx, e⟩
    have e := of_decide_eq_true e
    subst e
    exact hx
  · exact fun h => ⟨s, h, decide_eq_true rfl⟩
theorem BsAt.mem {G : List ByteArray} {s : ByteArray} {k : Nat} (h : BsAt G s k k) (hr : RisingS G) : memS G s = decide (G[k]? = some s) := by
  by_cases hm : s ∈ G
  · obtain ⟨j, hj, e⟩ := List.mem_iff_getElem.1 hm
    have hjk : j = k := by
      rcases Nat.lt_trichotomy j k with c | c | c
      · have := h.2.2.1 j hj c
        rw [e, lessS_irrefl] at this
        cases this
      · exact c
      · exfalso
        have h1 := h.2.2.2 k (by omega) (Nat.le_refl _)
        rw [← e, risingS_at hr c hj] at h1
        cases h1
    subst hjk
    rw [memS_iff.2 hm, decide_eq_true (by rw [List.getElem?_eq_getElem hj, e])]
  · rw [Bool.eq_false_iff.2 (fun k => hm (memS_iff.1 k))]
    symm
    rw [decide_eq_false_iff_not]
    intro e
    obtain ⟨hk, e⟩ := List.getElem?_eq_some_iff.1 e
    exact hm (by rw [← e]; exact List.getElem_mem hk)
set_option maxRecDepth 100000 in
set_option maxHeartbeats 4000000 in
theorem binS_any (v : Value) (G : List ByteArray) (s : ByteArray) (w : World) (hv : SV w v G) (hr : RisingS G) (hlen : G.length < 4611686018427387904) :
    Calls Tryz.prog 142 #[v, .string s] w fun e w' => ∃ i : Int, e = .returned (.tuple #[.int .i64 i, .bool (memS G s)]) ∧ Gr w w' := by
  obtain ⟨A, c, hva, hnc, ⟨hcm, -⟩, hat⟩ := hv
  subst hva
  have HAT : Hid (∀ j (hj : j < G.length), ∃ b off, A = some ⟨b, off, none⟩ ∧ w.cell? ⟨b, off + j, none⟩ = some (.string G[j])) := Lib.hid hat
  have HR := Lib.hid hr
  have HL := Lib.hid (fun a w1 => less_str a s w1)
  have HNS := Lib.hid (fun a w1 => nan_strS a w1)
  obtain ⟨n, hn⟩ : ∃ n, n = G.length := ⟨_, rfl⟩
  rw [← hn] at hnc hlen ⊢
  have HN := Lib.hid hn
  have HB0 : Hid (BsAt G s 0 n) := Lib.hid ⟨Nat.zero_le _, by rw [hn]; exact Nat.le_refl _, fun j _ h => absurd h (Nat.not_lt_zero _), fun j hj h => by omega⟩
  clear hn hat hr hcm
  go_enter Tryz.func142, Tryz.ntmps142
  go_wp2
  go_loopg [7, 8] n (fun gg s7 s8 wr => ∃ lo hi : Nat, s7 = .int .i64 lo ∧ s8 = .int .i64 hi ∧ hi - lo ≤ gg ∧ Hid (BsAt G s lo hi ∧ Gr w wr))
  case atStart => exact ⟨0, n, rfl, rfl, by omega, Lib.hid ⟨HB0.out, Gr.refl _⟩⟩
  case round =>
    obtain ⟨lo, hi, rfl, rfl, hg, hst⟩ := hrel
    have hlh := hst.out.1.1
    have hin : hi ≤ n := by rw [HN.out]; exact hst.out.1.2.1
    by_cases hlt : lo < hi
    · obtain ⟨m, hm⟩ : ∃ m, m = (lo + hi) / 2 := ⟨_, rfl⟩
      have hm1 : lo ≤ m := by omega
      have hm2 : m < hi := by omega
      have hmG : m < G.length := by have := HN.out; omega
      obtain ⟨b, off, hA, q0⟩ := HAT.out m hmG
      subst hA
      have q1 := hst.out.2.cell q0
      obtain ⟨y, hy⟩ : ∃ y, y = G[m] := ⟨_, rfl⟩
      rw [← hy] at q1
      have em : ((lo : Int) + (hi : Int)) / 2 = (m : Int) := by omega
      have HL2 := Lib.hid (HL.out y wr)
      rcases hl : lessS y s with _ | _
      · rw [hl] at HL2
        have HD : Hid (BsAt G s lo m ∧ Gr w wr) := Lib.hid ⟨hst.out.1.down HR.out hm1 hm2 (by rw [← hy]; exact hl), hst.out.2⟩
        have HM := Lib.hid hm
        clear hy q0 hl hst hm
        go_wp2_with fail
        refine HL2.out.mono ?_
        rintro e w1 ⟨rfl, rfl⟩
        go_wp2_with fail
        go_roundg (m - lo)
        case measure => omega
        case rel => exact ⟨lo, m, rfl, rfl, Nat.le_refl _, HD⟩
      · rw [hl] at HL2
        have HD : Hid (BsAt G s (m + 1) hi ∧ Gr w wr) := Lib.hid ⟨hst.out.1.up HR.out hm1 hm2 (by rw [← hy]; exact hl), hst.out.2⟩
        have HM := Lib.hid hm
        clear hy q0 hl hst hm
        go_wp2_with fail
        refine HL2.out.mono ?_
        rintro e w1 ⟨rfl, rfl⟩
        go_wp2_with fail
        go_roundg (hi - (m + 1))
        case measure => omega
        case rel => exact ⟨m + 1, hi, by go_num, rfl, Nat.le_refl _, HD⟩
    · have e : hi = lo := by omega
      subst e
      have HME := Lib.hid (hst.out.1.mem HR.out)
      have HGW := Lib.hid hst.out.2
      by_cases hln : hi < n
      · have hhG : hi < G.length := by rw [← HN.out]; exact hln
        obtain ⟨b, off, hA, q0⟩ := HAT.out hi hhG
        subst hA
        have q1 := hst.out.2.cell q0
        obtain ⟨y, hy⟩ : ∃ y, y = G[hi] := ⟨_, rfl⟩
        rw [← hy] at q1
        have hge : G[hi]? = some y := by rw [List.getElem?_eq_getElem hhG, hy]
        rw [hge] at HME
        have HN2 := Lib.hid (HNS.out y wr)
        by_cases hys : y = s
        · have HE : Hid (memS G s = true) := Lib.hid (by rw [HME.out, hys]; exact decide_eq_true rfl)
          have p1 : (y.toList == s.toList) = true := by rw [hys]; simp
          clear hge hy q0 hst HME hys
          go_wp2_with fail
          go_ret2
          exact ⟨(hi : Int), by rw [HE.out]; rfl, HGW.out⟩
        · have HE : Hid (memS G s = false) := Lib.hid (by rw [HME.out]; exact decide_eq_false fun h => hys (Option.some.inj h))
          have p1 : (y.toList == s.toList) = false := by
            have := eqS_ne hys
            unfold eqS at this
            exact this
          clear hge hy q0 hst HME hys
          go_wp2_with fail
          refine HN2.out.mono ?_
          rintro e w1 ⟨rfl, rfl⟩
          go_wp2_with fail
          go_ret2
          exact ⟨(hi : Int), by rw [HE.out]; rfl, HGW.out⟩
      · have HE : Hid (memS G s = false) := Lib.hid (by
          rw [HME.out]
          refine decide_eq_false fun h => ?_
          rw [List.getElem?_eq_none (by rw [← HN.out]; omega)] at h
          cases h)
        clear hst HME
        go_wp2_with fail
        go_ret2
        exact ⟨(hi : Int), by rw [HE.out]; rfl, HGW.out⟩
end Go.Proofs.YtnjmgknicffcbaaGreatDoor
