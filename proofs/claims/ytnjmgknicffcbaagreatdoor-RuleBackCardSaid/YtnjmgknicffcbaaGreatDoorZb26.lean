/- Walks: the deeds of a kind; a counter's total; the value of a counter at a closed cut. -/
import Derived.Test.YtnjmgknicffcbaaGreatDoorZb24
import Derived.Test.YtnjmgknicffcbaaGreatDoorZb25
namespace Go.Proofs.YtnjmgknicffcbaaGreatDoor
open Go.RowKit Go.Joins

theorem run_field_kind (k : Int) (s e : ByteArray) (n : Int) (W : World) : (Instr.field 52 (.agg #[.int .i64 k, .string s, .string e, .int .i64 n]) 0).run Tryz.prog W = .ok (.int .i64 k) W := by show _ = _; kernel_rfl
theorem run_field_n (k : Int) (s e : ByteArray) (n : Int) (W : World) : (Instr.field 52 (.agg #[.int .i64 k, .string s, .string e, .int .i64 n]) 3).run Tryz.prog W = .ok (.int .i64 n) W := by show _ = _; kernel_rfl
/-- The deeds of a kind. -/
def kindF (k : Int) (D : List DD) : List DD := D.filter fun d => decide (d.op.kind = k)
theorem kindF_yes {k : Int} {D : List DD} {j : Nat} (hj : j < D.length) (h : D[j].op.kind = k) : kindF k (D.take (j + 1)) = kindF k (D.take j) ++ [D[j]] := by
  unfold kindF
  rw [List.take_add_one, List.getElem?_eq_getElem hj, List.filter_append]
  simp [h]
theorem kindF_no {k : Int} {D : List DD} {j : Nat} (hj : j < D.length) (h : ¬ D[j].op.kind = k) : kindF k (D.take (j + 1)) = kindF k (D.take j) := by
  unfold kindF
  rw [List.take_add_one, List.getElem?_eq_getElem hj, List.filter_append]
  simp [h]
theorem kindF_len (k : Int) (D : List DD) (j : Nat) : (kindF k (D.take j)).length ≤ D.length := by
  unfold kindF
  have h1 := List.length_filter_le (fun d : DD => decide (d.op.kind = k)) (D.take j)
  have h2 : (D.take j).length ≤ D.length := by rw [List.length_take]; omega
  omega
theorem kindF_mem {k : Int} {D : List DD} {d : DD} (h : d ∈ kindF k D) : d ∈ D := (List.mem_filter.1 h).1
theorem dbox (w : World) (d : DD) : ∃ W, W = w.alloc (.cells #[.pointer (some ⟨d.b, d.o, none⟩), .int .i64 (d.i : Int)] 225) ∧ Gr w W ∧ W.cell? ⟨w.heap.size, 0, none⟩ = some (.pointer (some ⟨d.b, d.o, none⟩)) ∧ W.cell? ⟨w.heap.size, 1, none⟩ = some (.int .i64 (d.i : Int)) := by
  refine ⟨_, rfl, (Gr.refl w).alloc _, ?_, ?_⟩ <;> (rw [World.cell?_alloc_at _ _ _ _ rfl]; rfl)

set_option maxRecDepth 100000 in
set_option maxHeartbeats 4000000 in
theorem ofKind_any (v : Value) (D : List DD) (k : Int) (w : World) (h : DV w v D) (hx : DXs w D) (hlen : D.length ≤ 65536) :
    Calls Tryz.prog 197 #[v, .int .i64 k] w fun e w' => ∃ s, e = .returned s ∧ DO w' w.heap.size s (kindF k D) ∧ Gr w w' := by
  obtain ⟨A, c, hv, hnc, -, hat⟩ := h
  subst hv
  have HAT : Hid (∀ j (hj : j < D.length), ∃ b off, A = some ⟨b, off, none⟩ ∧ DCell w b (off + j * 2) D[j]) := Lib.hid hat
  have HX := Lib.hid hx
  obtain ⟨n, hn⟩ : ∃ n, n = D.length := ⟨_, rfl⟩
  rw [← hn] at hlen ⊢
  have HN := Lib.hid hn
  clear hnc hat hx hn
  go_enter Tryz.func197, Tryz.ntmps197
  go_wp2_with fail
  go_loopw [5, 10] (fun s i wr => ∃ j : Nat, j ≤ n ∧ i = .int .i64 j ∧ Hid (DO wr w.heap.size s (kindF k (D.take j)) ∧ Gr w wr)) (fun _ i _ => n - (intOf i).toNat)
  case atStart => exact ⟨0, Nat.zero_le _, rfl, Lib.hid ⟨DO.nil _ _, Gr.refl _⟩⟩
  case round =>
    obtain ⟨j, hj, rfl, hst⟩ := hrel
    rename World => wr
    by_cases hjn : j < n
    · have hj0 : (0 : Int) ≤ (j : Int) := Int.natCast_nonneg _
      have hjn1 : (j : Int) < (n : Int) := by omega
      have hjl : j < D.length := by rw [← HN.out]; exact hjn
      obtain ⟨b, off, rfl, hc0⟩ := HAT.out j hjl
      obtain ⟨d, hd⟩ : ∃ d, d = D[j] := ⟨_, rfl⟩
      rw [← hd] at hc0
      obtain ⟨c0, c1⟩ := hc0.gr hst.out.2
      have hdx : DX w d := HX.out d (by rw [hd]; exact List.getElem_mem hjl)
      obtain ⟨W5, hW5, hg5, y0, y1⟩ := dbox wr d
      have HOP := Lib.hid (fun w1 (g : Gr W5 w1) => dop_any d w1 ((hdx.gr (hst.out.2.trans hg5)).gr g))
      obtain ⟨A2, c2, hs2⟩ := slice_dd hst.out.1
      obtain ⟨n2, hn2⟩ : ∃ n2, n2 = (kindF k (D.take j)).length := ⟨_, rfl⟩
      rw [← hn2] at hs2
      have hln : (n2 + 1) * 16 ≤ 140737488355328 := by have := kindF_len k D j; have := HN.out; omega
      obtain ⟨kd, hkd⟩ : ∃ x, x = d.op.kind := ⟨_, rfl⟩
      obtain ⟨db, hdb⟩ : ∃ x, x = d.b := ⟨_, rfl⟩
      obtain ⟨dk, hdk⟩ : ∃ x, x = d.o := ⟨_, rfl⟩
      obtain ⟨di, hdi⟩ : ∃ x, x = d.i := ⟨_, rfl⟩
      obtain ⟨ok, hok⟩ : ∃ x, x = d.op.key := ⟨_, rfl⟩
      obtain ⟨oe, hoe⟩ : ∃ x, x = d.op.elem := ⟨_, rfl⟩
      obtain ⟨on, hon⟩ : ∃ x, x = d.op.n := ⟨_, rfl⟩
      have HD : Hid (⟨db, dk, d.t, di⟩ = d) := Lib.hid (by rw [hdb, hdk, hdi])
      rw [← hdb, ← hdk, ← hdi] at HOP
      unfold opv at HOP
      rw [← hkd, ← hok, ← hoe, ← hon] at HOP
      rw [← hdb, ← hdk] at c0 y0
      rw [← hdi] at c1 y1
      rw [← hdb, ← hdk, ← hdi] at hW5
      subst hs2
      have HST := Lib.hid (And.intro (hst.out.1.gr hg5) (hst.out.2.trans hg5))
      have HN2 := Lib.hid hn2
      have HDJ := Lib.hid hd
      have HKD := Lib.hid hkd
      clear hc0 hdx hg5 hn2 hst hd hkd hdb hdk hdi hok hoe hon
      go_upto_region 5 with (fail)
      rw [← hW5]
      clear hW5 c0 c1
      go_wp2_with fail
      refine (HOP.out _ (Gr.refl _)).mono ?_
      rintro e w6 ⟨rfl, g6⟩
      have hfl := fun W => run_field_kind kd ok oe on W
      have HG6 := Lib.hid g6
      have p0 := g6.cell y0
      have p1 := g6.cell y1
      clear g6 y0 y1
      by_cases hk : kd = k
      · have HST6 : Hid (DO (w6.alloc (.cells #[.pointer (some ⟨db, dk, none⟩), .int .i64 (di : Int)] 225)) w.heap.size (.slice A2 n2 c2) (kindF k (D.take j)) ∧ Gr w (w6.alloc (.cells #[.pointer (some ⟨db, dk, none⟩), .int .i64 (di : Int)] 225))) := Lib.hid ⟨(HST.out.1.gr HG6.out).gr (gr_box _ _), (HST.out.2.trans HG6.out).alloc _⟩
        have HNX : Hid (kindF k (D.take (j + 1)) = kindF k (D.take j) ++ [⟨db, dk, d.t, di⟩]) := Lib.hid (by rw [HD.out, HDJ.out]; exact kindF_yes hjl (by rw [← HDJ.out, ← HKD.out]; exact hk))
        subst hk
        go_wp2_with (at_builtin; refine wpList_push_dd (w0 := w) rfl (.tmp 19) (.tmp 21) rfl (.slice A2 n2 c2) (.slice (some ⟨w6.heap.size, 0, none⟩) 1 1) (kindF kd (D.take j)) [⟨db, dk, d.t, di⟩] n2 1 HN2.out rfl rfl HST6.out.1 rfl (dv_one w6 ⟨db, dk, d.t, di⟩ _ rfl) hln HST6.out.2 ?_)
        intro A9 c9 w9 hown9 hg9
        have HO9 := Lib.hid (And.intro hown9 hg9)
        clear hown9 hg9
        rw [← HNX.out] at HO9
        go_wp2_with fail
        go_roundw
        case measure => simp [intOf]; omega
        case rel => exact ⟨j + 1, by omega, by go_num, HO9⟩
      · have HNX : Hid (DO w6 w.heap.size (.slice A2 n2 c2) (kindF k (D.take (j + 1))) ∧ Gr w w6) := Lib.hid ⟨by rw [kindF_no hjl (by rw [← HDJ.out, ← HKD.out]; exact hk)]; exact HST.out.1.gr HG6.out, HST.out.2.trans HG6.out⟩
        go_wp2_with fail
        go_roundw
        case measure => simp [intOf]; omega
        case rel => exact ⟨j + 1, by omega, by go_num, HNX⟩
    · obtain rfl : j = n := by omega
      have HE : Hid (DO wr w.heap.size u5 (kindF k D) ∧ Gr w wr) := Lib.hid ⟨by have := hst.out.1; rw [HN.out, List.take_length] at this; exact this, hst.out.2⟩
      clear hst
      go_wp2_with fail
      go_ret
      exact ⟨_, rfl, HE.out⟩
/-- The numbers of the first j deeds, added. -/
def sumD (D : List DD) : Nat → Int
  | 0 => 0
  | j + 1 => sumD D j + (match D[j]? with | some d => d.op.n | none => 0)
theorem sumD_next {D : List DD} {j : Nat} (h : j < D.length) : sumD D (j + 1) = sumD D j + D[j].op.n := by
  show _ + _ = _
  rw [List.getElem?_eq_getElem h]
def totD (start : Int) (D : List DD) : Int := start + sumD (kindF 1 D) (kindF 1 D).length - sumD (kindF 2 D) (kindF 2 D).length
theorem wrap_add (x n : Int) : wrap64 (wrap64 x + n) = wrap64 (x + n) := by
  unfold wrap64
  omega
theorem wrap_sub (x n : Int) : wrap64 (wrap64 x - n) = wrap64 (x - n) := by
  unfold wrap64
  omega

set_option maxRecDepth 100000 in
set_option maxHeartbeats 4000000 in
theorem total_any (start : Int) (v : Value) (D : List DD) (w : World) (h : DV w v D) (hx : DXs w D) (hlen : D.length ≤ 65536) (hb : wrap64 start = start) :
    Calls Tryz.prog 181 #[.int .i64 start, v] w fun e w' => e = .returned (.int .i64 (wrap64 (totD start D))) ∧ Gr w w' := by
  have HX := Lib.hid hx
  have HK1 := Lib.hid (ofKind_any v D 1 w h hx hlen)
  have HK2 := Lib.hid (fun w1 (g : Gr w w1) => ofKind_any v D 2 w1 (h.gr g) (hx.gr g) hlen)
  obtain ⟨A, c, rfl⟩ := dv_form h
  obtain ⟨nD, hnD⟩ : ∃ n, n = D.length := ⟨_, rfl⟩
  rw [← hnD] at HK1 HK2 ⊢
  obtain ⟨D1, hD1⟩ : ∃ x, x = kindF 1 D := ⟨_, rfl⟩
  obtain ⟨D2, hD2⟩ : ∃ x, x = kindF 2 D := ⟨_, rfl⟩
  rw [← hD1] at HK1
  rw [← hD2] at HK2
  have HM1 := Lib.hid hD1
  have HM2 := Lib.hid hD2
  obtain ⟨s0, hs0⟩ : ∃ x, x = start := ⟨_, rfl⟩
  have HB : Hid (s0 = wrap64 (start + sumD D1 0)) := Lib.hid (by rw [hs0]; show start = wrap64 (start + 0); rw [Int.add_zero]; exact hb.symm)
  rw [← hs0] at ⊢
  have HS0 := Lib.hid hs0
  clear h hx hnD hD1 hD2 hs0 hb
  go_enter Tryz.func181, Tryz.ntmps181
  go_wp2_with fail
  refine HK1.out.mono ?_
  rintro e w2 ⟨s1, rfl, ho1, g2⟩
  obtain ⟨A1, c1, hs1⟩ := slice_dd ho1
  subst hs1
  obtain ⟨Ax, cx, hvx, -, -, hat1⟩ := ho1.dv
  injection hvx with e1 e2 e3
  subst e1 e3
  have HAT1 : Hid (∀ j (hj : j < D1.length), ∃ b off, A1 = some ⟨b, off, none⟩ ∧ DCell w2 b (off + j * 2) D1[j]) := Lib.hid hat1
  obtain ⟨n1, hn1⟩ : ∃ n, n = D1.length := ⟨_, rfl⟩
  rw [← hn1]
  have HN1 := Lib.hid hn1
  have hnb1 : n1 ≤ 65536 := by
    have := kindF_len 1 D D.length
    rw [List.take_length, ← HM1.out, ← hn1] at this
    omega
  have HG2 := Lib.hid g2
  clear ho1 e2 hat1 hn1 g2
  go_wp2_with fail
  go_loopw [0, 12] (fun s i wr => ∃ j : Nat, j ≤ n1 ∧ s = .int .i64 (wrap64 (start + sumD D1 j)) ∧ i = .int .i64 j ∧ Hid (Gr w2 wr ∧ Gr w wr)) (fun _ i _ => n1 - (intOf i).toNat)
  case atStart => exact ⟨0, Nat.zero_le _, by rw [HB.out], rfl, Lib.hid ⟨Gr.refl _, HG2.out⟩⟩
  case round =>
    obtain ⟨j, hj, rfl, rfl, hst⟩ := hrel
    rename World => wr
    by_cases hjn : j < n1
    · have hj0 : (0 : Int) ≤ (j : Int) := Int.natCast_nonneg _
      have hjn1 : (j : Int) < (n1 : Int) := by omega
      have hjl : j < D1.length := by rw [← HN1.out]; exact hjn
      obtain ⟨b, off, hA, hc0⟩ := HAT1.out j hjl
      subst hA
      obtain ⟨d, hd⟩ : ∃ d, d = D1[j] := ⟨_, rfl⟩
      rw [← hd] at hc0
      obtain ⟨c0, c1⟩ := hc0.gr hst.out.1
      have hdx : DX w d := HX.out d (kindF_mem (k := 1) (by rw [hd, ← HM1.out]; exact List.getElem_mem hjl))
      obtain ⟨W5, hW5, hg5, y0, y1⟩ := dbox wr d
      have HOP := Lib.hid (fun w1 (g : Gr W5 w1) => dop_any d w1 ((hdx.gr (hst.out.2.trans hg5)).gr g))
      obtain ⟨kd, hkd⟩ : ∃ x, x = d.op.kind := ⟨_, rfl⟩
      obtain ⟨db, hdb⟩ : ∃ x, x = d.b := ⟨_, rfl⟩
      obtain ⟨dk, hdk⟩ : ∃ x, x = d.o := ⟨_, rfl⟩
      obtain ⟨di, hdi⟩ : ∃ x, x = d.i := ⟨_, rfl⟩
      obtain ⟨ok, hok⟩ : ∃ x, x = d.op.key := ⟨_, rfl⟩
      obtain ⟨oe, hoe⟩ : ∃ x, x = d.op.elem := ⟨_, rfl⟩
      obtain ⟨on, hon⟩ : ∃ x, x = d.op.n := ⟨_, rfl⟩
      rw [← hdb, ← hdk, ← hdi] at HOP
      unfold opv at HOP
      rw [← hkd, ← hok, ← hoe, ← hon] at HOP
      rw [← hdb, ← hdk] at c0 y0
      rw [← hdi] at c1 y1
      rw [← hdb, ← hdk, ← hdi] at hW5
      have HG5 := Lib.hid (And.intro (hst.out.1.trans hg5) (hst.out.2.trans hg5))
      obtain ⟨x, hx⟩ : ∃ x, x = start + sumD D1 j := ⟨_, rfl⟩
      have HW : Hid (wrap64 (wrap64 x + on) = wrap64 (start + sumD D1 (j + 1))) := Lib.hid (by rw [wrap_add, hx, sumD_next hjl, ← hd, ← hon]; congr 1; omega)
      rw [← hx]
      clear hc0 hdx hg5 hst hd hkd hdb hdk hdi hok hoe hon hx
      go_upto_region 4 with (fail)
      rw [← hW5]
      clear hW5 c0 c1
      go_wp2_with fail
      refine (HOP.out _ (Gr.refl _)).mono ?_
      rintro e w6 ⟨rfl, g6⟩
      have hfl := fun W => run_field_n kd ok oe on W
      have HG6 := Lib.hid (And.intro (HG5.out.1.trans g6) (HG5.out.2.trans g6))
      clear g6 y0 y1
      go_wp2_with fail
      go_roundw
      case measure => simp [intOf]; omega
      case rel => exact ⟨j + 1, by omega, by rw [← HW.out], by go_num, HG6⟩
    · obtain rfl : j = n1 := by omega
      have HGW := Lib.hid hst.out.2
      obtain ⟨x1, hx1⟩ : ∃ x, x = start + sumD D1 j := ⟨_, rfl⟩
      rw [← hx1]
      have HX1 := Lib.hid hx1
      clear hst hx1
      go_wp2_with fail
      refine (HK2.out _ HGW.out).mono ?_
      rintro e w3 ⟨s2, rfl, ho2, g3⟩
      obtain ⟨A2, c2, hs2⟩ := slice_dd ho2
      subst hs2
      obtain ⟨Ax, cx, hvx, -, -, hat2⟩ := ho2.dv
      injection hvx with e1 e2 e3
      subst e1 e3
      have HAT2 : Hid (∀ j (hj : j < D2.length), ∃ b off, A2 = some ⟨b, off, none⟩ ∧ DCell w3 b (off + j * 2) D2[j]) := Lib.hid hat2
      obtain ⟨n2, hn2⟩ : ∃ n, n = D2.length := ⟨_, rfl⟩
      rw [← hn2]
      have HN2 := Lib.hid hn2
      have hnb2 : n2 ≤ 65536 := by
        have := kindF_len 2 D D.length
        rw [List.take_length, ← HM2.out, ← hn2] at this
        omega
      have HG3 := Lib.hid (HGW.out.trans g3)
      have HB2 : Hid (wrap64 x1 = wrap64 (x1 - sumD D2 0)) := Lib.hid (by show _ = wrap64 (x1 - 0); rw [Int.sub_zero])
      clear ho2 e2 hat2 hn2 g3
      obtain ⟨s3, hs3⟩ : ∃ x, x = wrap64 x1 := ⟨_, rfl⟩
      rw [← hs3] at HB2
      rw [← hs3]
      clear hs3
      go_wp2_with fail
      go_loopw [0, 25] (fun s i wr => ∃ j : Nat, j ≤ n2 ∧ s = .int .i64 (wrap64 (x1 - sumD D2 j)) ∧ i = .int .i64 j ∧ Hid (Gr w3 wr ∧ Gr w wr)) (fun _ i _ => n2 - (intOf i).toNat)
      case atStart => exact ⟨0, Nat.zero_le _, by rw [HB2.out], rfl, Lib.hid ⟨Gr.refl _, HG3.out⟩⟩
      case round =>
        obtain ⟨j, hj, rfl, rfl, hst⟩ := hrel
        rename World => wr
        by_cases hjn : j < n2
        · have hj0 : (0 : Int) ≤ (j : Int) := Int.natCast_nonneg _
          have hjn1 : (j : Int) < (n2 : Int) := by omega
          have hjl : j < D2.length := by rw [← HN2.out]; exact hjn
          obtain ⟨b, off, hA, hc0⟩ := HAT2.out j hjl
          subst hA
          obtain ⟨d, hd⟩ : ∃ d, d = D2[j] := ⟨_, rfl⟩
          rw [← hd] at hc0
          obtain ⟨c0, c1⟩ := hc0.gr hst.out.1
          have hdx : DX w d := HX.out d (kindF_mem (k := 2) (by rw [hd, ← HM2.out]; exact List.getElem_mem hjl))
          obtain ⟨W5, hW5, hg5, y0, y1⟩ := dbox wr d
          have HOP := Lib.hid (fun w1 (g : Gr W5 w1) => dop_any d w1 ((hdx.gr (hst.out.2.trans hg5)).gr g))
          obtain ⟨kd, hkd⟩ : ∃ x, x = d.op.kind := ⟨_, rfl⟩
          obtain ⟨db, hdb⟩ : ∃ x, x = d.b := ⟨_, rfl⟩
          obtain ⟨dk, hdk⟩ : ∃ x, x = d.o := ⟨_, rfl⟩
          obtain ⟨di, hdi⟩ : ∃ x, x = d.i := ⟨_, rfl⟩
          obtain ⟨ok, hok⟩ : ∃ x, x = d.op.key := ⟨_, rfl⟩
          obtain ⟨oe, hoe⟩ : ∃ x, x = d.op.elem := ⟨_, rfl⟩
          obtain ⟨on, hon⟩ : ∃ x, x = d.op.n := ⟨_, rfl⟩
          rw [← hdb, ← hdk, ← hdi] at HOP
          unfold opv at HOP
          rw [← hkd, ← hok, ← hoe, ← hon] at HOP
          rw [← hdb, ← hdk] at c0 y0
          rw [← hdi] at c1 y1
          rw [← hdb, ← hdk, ← hdi] at hW5
          have HG5 := Lib.hid (And.intro (hst.out.1.trans hg5) (hst.out.2.trans hg5))
          obtain ⟨x, hx⟩ : ∃ x, x = x1 - sumD D2 j := ⟨_, rfl⟩
          have HW : Hid (wrap64 (wrap64 x - on) = wrap64 (x1 - sumD D2 (j + 1))) := Lib.hid (by rw [wrap_sub, hx, sumD_next hjl, ← hd, ← hon]; congr 1; omega)
          rw [← hx]
          clear hc0 hdx hg5 hst hd hkd hdb hdk hdi hok hoe hon hx
          go_upto_region 9 with (fail)
          rw [← hW5]
          clear hW5 c0 c1
          go_wp2_with fail
          refine (HOP.out _ (Gr.refl _)).mono ?_
          rintro e w6 ⟨rfl, g6⟩
          have hfl := fun W => run_field_n kd ok oe on W
          have HG6 := Lib.hid (And.intro (HG5.out.1.trans g6) (HG5.out.2.trans g6))
          clear g6 y0 y1
          go_wp2_with fail
          go_roundw
          case measure => simp [intOf]; omega
          case rel => exact ⟨j + 1, by omega, by rw [← HW.out], by go_num, HG6⟩
        · obtain rfl : j = n2 := by omega
          have HE : Hid (wrap64 (x1 - sumD D2 j) = wrap64 (totD start D)) := Lib.hid (by unfold totD; rw [HX1.out, HN1.out, HN2.out, ← HM1.out, ← HM2.out])
          have HGF := Lib.hid hst.out.2
          obtain ⟨x2, hx2⟩ : ∃ x, x = wrap64 (x1 - sumD D2 j) := ⟨_, rfl⟩
          rw [← hx2] at HE ⊢
          clear hst hx2
          go_wp2_with fail
          go_ret
          exact ⟨by rw [HE.out, HS0.out]; rfl, HGF.out⟩
end Go.Proofs.YtnjmgknicffcbaaGreatDoor
