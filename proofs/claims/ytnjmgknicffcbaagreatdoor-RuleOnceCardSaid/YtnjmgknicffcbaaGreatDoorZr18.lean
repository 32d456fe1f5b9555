/- Walks: the deeds on a key. Walks: the deeds of a kind; a counter's total; the value of a counter at a closed cut. -/
import Derived.Test.YtnjmgknicffcbaaGreatDoorZr17
import Derived.Test.YtnjmgknicffcbaaGreatDoorZr11
import Derived.Test.YtnjmgknicffcbaaGreatDoorZr10
namespace Go.Proofs.YtnjmgknicffcbaaGreatDoor
open Go.RowKit Go.Joins

/-- What the rounds of deedsOn leave. -/
structure DsR (w W : World) (L : List (TX × Nat)) (s : Value) (D : List DD) (wr : World) : Prop where
  own : DO wr W.heap.size s D
  sh : dsh D = L
  xs : DXs w D
  gr : Gr W wr
theorem DsR.next {w W : World} {L : List (TX × Nat)} {s : Value} {D : List DD} {wr w' : World} (h : DsR w W L s D wr) (g : Gr wr w') : DsR w W L s D w' := ⟨h.own.gr g, h.sh, h.xs, h.gr.trans g⟩
theorem opbox (w : World) (o : TO) : ∃ W, W = w.alloc (.cells (opv o) 52) ∧ Gr w W ∧ TCell W w.heap.size 0 o := by
  refine ⟨_, rfl, (Gr.refl w).alloc _, ?_⟩
  unfold TCell
  refine ⟨?_, ?_, ?_, ?_⟩ <;> (rw [World.cell?_alloc_at _ _ _ _ rfl]; rfl)
theorem slice_dd {w : World} {B : Nat} {s : Value} {D : List DD} (h : DO w B s D) : ∃ A c, s = .slice A D.length c := dv_form h.dv

set_option maxRecDepth 100000 in
set_option maxHeartbeats 4000000 in
theorem deeds_any (u : Nat → S3) (l : LG) (v : Nat → Nat) (key : ByteArray) (w : World) (h : LV w u l) (hv : leqB v (sizeV l) = true) (hops : ∀ i t, i < 8 → t ∈ l i → t.ops.length ≤ 8) (hlen : ∀ i, i < 8 → v i ≤ 1024) :
    Calls Tryz.prog 163 #[.agg (lcells u), .agg (vcells v), .string key] w fun e w' => ∃ s D, e = .returned s ∧ DsR w w (dAll key l v 8) s D w' := by
  obtain ⟨W, hW, hg, hsz, hL, hV⟩ := boxesLV u v w
  have HV := Lib.hid hV
  have HG := Lib.hid hg
  have HX := Lib.hid (h.gr hg)
  have HX0 := Lib.hid h
  have HVS := Lib.hid hv
  have HOP := Lib.hid hops
  have HVL := Lib.hid hlen
  have HDA := Lib.hid (fun i (hi : i ≤ 8) => dAll_len key l v hops hlen i hi)
  have HDL := Lib.hid (fun i (hi : i < 8) d => dLog_len key l i (fun t ht => hops i t hi ht) d)
  have HDT := Lib.hid (fun t j => dTx_len key t j)
  obtain ⟨l0, l1, l2, l3, l4, l5, l6, l7⟩ := hL.all
  clear hL hV hg hsz h hv hops hlen
  go_enter Tryz.func163, Tryz.ntmps163
  go_upto_region 1 with (fail)
  rw [← hW]
  clear hW
  go_wp2_with fail
  clear l0 l1 l2 l3 l4 l5 l6 l7
  go_loopw [7, 15] (fun s i wr => ∃ k : Nat, k ≤ 8 ∧ i = .int .i64 k ∧ Hid (∃ D, DsR w W (dAll key l v k) s D wr)) (fun _ i _ => 8 - (intOf i).toNat)
  case atStart => exact ⟨0, by decide, rfl, Lib.hid ⟨[], ⟨DO.nil _ _, rfl, fun _ h => (by cases h), Gr.refl _⟩⟩⟩
  case round =>
    obtain ⟨k, hk, rfl, hst⟩ := hrel
    rename World => wo
    by_cases hlt : k < 8
    · have hk0 : (0 : Int) ≤ (k : Int) := Int.natCast_nonneg _
      have hk8 : (k : Int) < 8 := by omega
      have hix := fun W => run_index_logs u hlt W
      obtain ⟨D0, hd0⟩ := hst.out
      have hc := (HV.out.gr hd0.gr).at hlt
      have hvl : v k ≤ (l k).length := lq HVS.out hlt
      obtain ⟨Ak, ck, hxv, hnc, -, hcell⟩ := HX.out k hlt
      injection hxv with e1 e2 e3
      obtain ⟨A, hA⟩ : ∃ A, A = (u k).a := ⟨_, rfl⟩
      obtain ⟨n, hn⟩ : ∃ n, n = (u k).n := ⟨_, rfl⟩
      obtain ⟨c, hcc⟩ : ∃ c, c = (u k).c := ⟨_, rfl⟩
      obtain ⟨m, hm⟩ : ∃ m, m = v k := ⟨_, rfl⟩
      rw [← hA, ← hn, ← hcc] at hix
      rw [← hm] at hc hvl
      have hnl : n = (l k).length := by rw [hn, e2]
      have hmc : m ≤ c := by rw [hcc, e3]; omega
      have hsl := fun W => slice_txs A (n := n) (k := m) (c := c) hmc W
      have HA := Lib.hid hA
      have HN := Lib.hid hnl
      have HM := Lib.hid hm
      have HML := Lib.hid hvl
      have HC := Lib.hid hc
      have HD0 := Lib.hid hd0
      clear hA hn hcc hm hnl hmc e1 e2 e3 hnc hcell hd0 hst hvl
      go_wp2_with fail
      clear hix hsl
      go_loopw [7, 25] (fun s i wr => ∃ d : Nat, d ≤ m ∧ i = .int .i64 d ∧ Hid (∃ D, DsR w W (dAll key l v k ++ dLog key l k d) s D wr)) (fun _ i _ => m - (intOf i).toNat)
      case atStart => exact ⟨0, Nat.zero_le _, rfl, Lib.hid ⟨D0, ⟨HD0.out.own, by rw [HD0.out.sh]; exact (List.append_nil _).symm, HD0.out.xs, HD0.out.gr⟩⟩⟩
      case round =>
        obtain ⟨d, hd, rfl, hst⟩ := hrel
        rename World => wi
        by_cases hdm : d < m
        · have hdl : d < (l k).length := by have := HML.out; omega
          have hd0 : (0 : Int) ≤ (d : Int) := Int.natCast_nonneg _
          have hdn : (d : Int) < (n : Int) := by have := HN.out; omega
          have hdm1 : (d : Int) < (m : Int) := by omega
          obtain ⟨D1, hd1⟩ := hst.out
          obtain ⟨b, off, ha, hxc⟩ := HX0.out.cell hlt hdl
          rw [← HA.out] at ha
          subst ha
          obtain ⟨t, ht⟩ : ∃ t, t = (l k)[d] := ⟨_, rfl⟩
          rw [← ht] at hxc
          have HT := Lib.hid (show (l k)[d]? = some t by rw [ht]; exact List.getElem?_eq_getElem hdl)
          have hto : t.ops.length ≤ 8 := HOP.out k t hlt (by rw [ht]; exact List.getElem_mem hdl)
          have HXC := Lib.hid hxc
          obtain ⟨vx, hvx, x0, x1, x2, x3, x4, x5, x6, x7, x8, x9, x10, x11⟩ := hxc
          obtain ⟨Ax, cx, rfl, hxn, -, hxat⟩ := hvx
          obtain ⟨nx, hnx⟩ : ∃ n, n = t.ops.length := ⟨_, rfl⟩
          rw [← hnx] at x11
          have x11 := (HG.out.trans hd1.gr).cell x11
          have HNX := Lib.hid hnx
          have HXA : Hid (∀ j (hj : j < t.ops.length), ∃ b off, Ax = some ⟨b, off, none⟩ ∧ TCell w b (off + j * 4) t.ops[j]) := Lib.hid hxat
          have HD1 := Lib.hid hd1
          have hnx8 : nx ≤ 8 := by omega
          clear x0 x1 x2 x3 x4 x5 x6 x7 x8 x9 x10 hxn hxat hnx hd1 hst ht hto
          go_wp2_with fail
          go_loopw [7, 36] (fun s i wr => ∃ j : Nat, j ≤ nx ∧ i = .int .i64 j ∧ Hid (∃ D, DsR w W (dAll key l v k ++ dLog key l k d ++ dTx key t j) s D wr)) (fun _ i _ => nx - (intOf i).toNat)
          case atStart => exact ⟨0, Nat.zero_le _, rfl, Lib.hid ⟨D1, ⟨HD1.out.own, by rw [HD1.out.sh]; exact (List.append_nil _).symm, HD1.out.xs, HD1.out.gr⟩⟩⟩
          case round =>
            clear x11
            obtain ⟨j, hj, rfl, hst⟩ := hrel
            rename World => wr
            by_cases hjn : j < nx
            · have hjl : j < t.ops.length := by rw [← HNX.out]; exact hjn
              have hj0 : (0 : Int) ≤ (j : Int) := Int.natCast_nonneg _
              have hjn1 : (j : Int) < (nx : Int) := by omega
              obtain ⟨D2, hd2⟩ := hst.out
              obtain ⟨bo, oo, rfl, hoc⟩ := HXA.out j hjl
              obtain ⟨o, ho⟩ : ∃ o, o = t.ops[j] := ⟨_, rfl⟩
              rw [← ho] at hoc
              have HO := Lib.hid (show t.ops[j]? = some o by rw [ho]; exact List.getElem?_eq_getElem hjl)
              obtain ⟨o0, o1, o2, o3⟩ := hoc.gr (HG.out.trans hd2.gr)
              obtain ⟨W5, hW5, hg5, hx5⟩ := opbox wr o
              obtain ⟨A2, c2, hs2⟩ := slice_dd hd2.own
              subst hs2
              have hlen2 : D2.length ≤ 8 * 8192 + 8192 + 8 := by
                have e1 : D2.length = (dsh D2).length := (List.length_map _).symm
                rw [e1, hd2.sh, List.length_append, List.length_append]
                have := HDA.out k (by omega)
                have := HDL.out k hlt d
                have := HDT.out t j
                have := HVL.out k hlt
                have := HM.out
                omega
              have hln : (D2.length + 1) * 16 ≤ 140737488355328 := by omega
              obtain ⟨n2, hn2⟩ : ∃ n, n = D2.length := ⟨_, rfl⟩
              rw [← hn2] at hln
              obtain ⟨q, hq⟩ : ∃ q, q = eqS o.key key := ⟨_, rfl⟩
              have t0 : (o.key.toList == key.toList) = q := hq.symm
              have HQ := Lib.hid hq
              have HD2 := Lib.hid (hd2.next hg5)
              have HN2 := Lib.hid hn2
              have HX5 := Lib.hid hx5
              have HB5 := Lib.hid (show wr.heap.size < W5.heap.size by rw [hW5]; simp)
              clear ho hoc hd2 hg5 hst hn2 hq hlen2
              go_upto_region 12 with (fail)
              rw [← hW5]
              clear o0 o1 o2 o3 hW5
              obtain ⟨y0, y1, y2, y3⟩ := hx5
              rcases q with _ | _
              · have HS : Hid (∃ D, DsR w W (dAll key l v k ++ dLog key l k d ++ dTx key t (j + 1)) (.slice A2 D2.length c2) D W5) := Lib.hid ⟨D2, by rw [dTx_no HO.out HQ.out.symm]; exact HD2.out⟩
                rw [← HN2.out] at HS ⊢
                go_wp2_with fail
                go_roundw
                case measure => simp [intOf]; omega
                case rel => exact ⟨j + 1, by omega, by go_num, HS⟩
              · have HDD : Hid (DX w ⟨b, off + d * 12, t, j⟩) := Lib.hid ⟨HXC.out, hjl⟩
                have HDO : Hid (DO (W5.alloc (.cells #[.pointer (some ⟨b, off + d * 12, none⟩), .int .i64 (j : Int)] 225)) W.heap.size (.slice A2 n2 c2) D2) := Lib.hid (by rw [HN2.out]; exact HD2.out.own.gr (gr_box _ _))
                rw [← HN2.out]
                clear hlt
                go_upto_region 14 with (at_builtin; refine wpList_push_dd (w0 := W) rfl (.tmp 45) (.tmp 49) rfl (.slice A2 n2 c2) (.slice (some ⟨W5.heap.size, 0, none⟩) 1 1) D2 [⟨b, off + d * 12, t, j⟩] n2 1 HN2.out rfl rfl HDO.out rfl (dv_one W5 ⟨b, off + d * 12, t, j⟩ _ rfl) hln (HD2.out.gr.alloc _) ?_; intro A9 c9 w9 hown9 hg9; have HO9 := Lib.hid hown9; have HG9 := Lib.hid hg9; clear hown9 hg9)
                have HS : Hid (∃ D, DsR w W (dAll key l v k ++ dLog key l k d ++ dTx key t (j + 1)) (.slice A9 (n2 + 1) c9) D w9) := Lib.hid ⟨D2 ++ [⟨b, off + d * 12, t, j⟩], ⟨HO9.out, by rw [dTx_yes HO.out HQ.out.symm, ← List.append_assoc, ← HD2.out.sh]; unfold dsh; rw [List.map_append]; rfl, fun x hx => by
                  rcases List.mem_append.1 hx with hx | hx
                  · exact HD2.out.xs x hx
                  · simp only [List.mem_singleton] at hx
                    subst hx
                    exact HDD.out, HG9.out⟩⟩
                go_wp2_with fail
                go_roundw
                case measure => simp [intOf]; omega
                case rel => exact ⟨j + 1, by omega, by go_num, HS⟩
            · obtain rfl : j = nx := by omega
              obtain ⟨D2, hd2⟩ := hst.out
              have HS : Hid (∃ D, DsR w W (dAll key l v k ++ dLog key l k (d + 1)) u7 D wr) := Lib.hid ⟨D2, ⟨hd2.own, by rw [dLog_at HT.out, ← HNX.out, ← List.append_assoc]; exact hd2.sh, hd2.xs, hd2.gr⟩⟩
              have hmb : m ≤ 1024 := by rw [HM.out]; exact HVL.out k hlt
              clear hd2 hst
              go_wp2_with fail
              go_roundw
              case measure => simp [intOf]; omega
              case rel => exact ⟨d + 1, by omega, by go_num, HS⟩
        · obtain rfl : d = m := by omega
          obtain ⟨D2, hd2⟩ := hst.out
          have HS : Hid (∃ D, DsR w W (dAll key l v (k + 1)) u7 D wi) := Lib.hid ⟨D2, ⟨hd2.own, by rw [hd2.sh, HM.out]; rfl, hd2.xs, hd2.gr⟩⟩
          clear hd2 hst
          go_wp2_with fail
          go_roundw
          case measure => simp [intOf]; omega
          case rel => exact ⟨k + 1, by omega, by go_num, HS⟩
    · obtain rfl : k = 8 := by omega
      obtain ⟨D2, hd2⟩ := hst.out
      have HS : Hid (∃ D, DsR w w (dAll key l v 8) u7 D wo) := Lib.hid ⟨D2, ⟨hd2.own.le HG.out.size, hd2.sh, hd2.xs, HG.out.trans hd2.gr⟩⟩
      clear hd2 hst
      go_wp2_with fail
      go_ret
      exact ⟨_, _, rfl, HS.out.choose_spec⟩
end Go.Proofs.YtnjmgknicffcbaaGreatDoor
namespace Go.Proofs.YtnjmgknicffcbaaGreatDoor
open Go.RowKit Go.Joins

theorem run_field_kind (k : Int) (s e : ByteArray) (n : Int) (W : World) : (Instr.field 52 (.agg #[.int .i64 k, .string s, .string e, .int .i64 n]) 0).run Tryz.prog W = .ok (.int .i64 k) W := by show _ = _; kernel_rfl
theorem run_field_n (k : Int) (s e : ByteArray) (n : Int) (W : World) : (Instr.field 52 (.agg #[.int .i64 k, .string s, .string e, .int .i64 n]) 3).run Tryz.prog W = .ok (.int .i64 n) W := by show _ = _; kernel_rfl
/-- The deeds of a kind. -/
def kindF (k : Int) (D : List DD) : List DD := D.filter fun d => decide (d.op.kind = k)
theorem kindF_yes {k : Int} {D : List DD} {j : Nat} (hj : j < D.length) (h : D[j].op.kind = k) : kindF k (D.take (j + 1)) = kindF k (D.take j) ++ [D[j]] := by
  unfold kindF
  rw [List.take_add_one, List.getElem?_eq_getElem hj, List.filter_append]
  simp [h]
theorem kindF_no {k : Int} {D : List DD} {j : Nat} (hj : j < D.length) (h : ¬ D[j].op.kind = k) : kindF k (D.take (j + 1)) = kindF k (D.take j) := by
  unfold kindF
  rw [List.take_add_one, List.getElem?_eq_getElem hj, List.filter_append]
  simp [h]
theorem kindF_len (k : Int) (D : List DD) (j : Nat) : (kindF k (D.take j)).length ≤ D.length := by
  unfold kindF
  have h1 := List.length_filter_le (fun d : DD => decide (d.op.kind = k)) (D.take j)
  have h2 : (D.take j).length ≤ D.length := by rw [List.length_take]; omega
  omega
theorem kindF_mem {k : Int} {D : List DD} {d : DD} (h : d ∈ kindF k D) : d ∈ D := (List.mem_filter.1 h).1
theorem dbox (w : World) (d : DD) : ∃ W, W = w.alloc (.cells #[.pointer (some ⟨d.b, d.o, none⟩), .int .i64 (d.i : Int)] 225) ∧ Gr w W ∧ W.cell? ⟨w.heap.size, 0, none⟩ = some (.pointer (some ⟨d.b, d.o, none⟩)) ∧ W.cell? ⟨w.heap.size, 1, none⟩ = some (.int .i64 (d.i : Int)) := by
  refine ⟨_, rfl, (Gr.refl w).alloc _, ?_, ?_⟩ <;> (rw [World.cell?_alloc_at _ _ _ _ rfl]; rfl)

set_option maxRecDepth 100000 in
set_option maxHeartbeats 4000000 in
theorem ofKind_any (v : Value) (D : List DD) (k : Int) (w : World) (h : DV w v D) (hx : DXs w D) (hlen : D.length ≤ 65536) :
    Calls Tryz.prog 197 #[v, .int .i64 k] w fun e w' => ∃ s, e = .returned s ∧ DO w' w.heap.size s (kindF k D) ∧ Gr w w' := by
  obtain ⟨A, c, hv, hnc, -, hat⟩ := h
  subst hv
  have HAT : Hid (∀ j (hj : j < D.length), ∃ b off, A = some ⟨b, off, none⟩ ∧ DCell w b (off + j * 2) D[j]) := Lib.hid hat
  have HX := Lib.hid hx
  obtain ⟨n, hn⟩ : ∃ n, n = D.length := ⟨_, rfl⟩
  rw [← hn] at hlen ⊢
  have HN := Lib.hid hn
  clear hnc hat hx hn
  go_enter Tryz.func197, Tryz.ntmps197
  go_wp2_with fail
  go_loopw [5, 10] (fun s i wr => ∃ j : Nat, j ≤ n ∧ i = .int .i64 j ∧ Hid (DO wr w.heap.size s (kindF k (D.take j)) ∧ Gr w wr)) (fun _ i _ => n - (intOf i).toNat)
  case atStart => exact ⟨0, Nat.zero_le _, rfl, Lib.hid ⟨DO.nil _ _, Gr.refl _⟩⟩
  case round =>
    obtain ⟨j, hj, rfl, hst⟩ := hrel
    rename World => wr
    by_cases hjn : j < n
    · have hj0 : (0 : Int) ≤ (j : Int) := Int.natCast_nonneg _
      have hjn1 : (j : Int) < (n : Int) := by omega
      have hjl : j < D.length := by rw [← HN.out]; exact hjn
      obtain ⟨b, off, rfl, hc0⟩ := HAT.out j hjl
      obtain ⟨d, hd⟩ : ∃ d, d = D[j] := ⟨_, rfl⟩
      rw [← hd] at hc0
      obtain ⟨c0, c1⟩ := hc0.gr hst.out.2
      have hdx : DX w d := HX.out d (by rw [hd]; exact List.getElem_mem hjl)
      obtain ⟨W5, hW5, hg5, y0, y1⟩ := dbox wr d
      have HOP := Lib.hid (fun w1 (g : Gr W5 w1) => dop_any d w1 ((hdx.gr (hst.out.2.trans hg5)).gr g))
      obtain ⟨A2, c2, hs2⟩ := slice_dd hst.out.1
      obtain ⟨n2, hn2⟩ : ∃ n2, n2 = (kindF k (D.take j)).length := ⟨_, rfl⟩
      rw [← hn2] at hs2
      have hln : (n2 + 1) * 16 ≤ 140737488355328 := by have := kindF_len k D j; have := HN.out; omega
      obtain ⟨kd, hkd⟩ : ∃ x, x = d.op.kind := ⟨_, rfl⟩
      obtain ⟨db, hdb⟩ : ∃ x, x = d.b := ⟨_, rfl⟩
      obtain ⟨dk, hdk⟩ : ∃ x, x = d.o := ⟨_, rfl⟩
      obtain ⟨di, hdi⟩ : ∃ x, x = d.i := ⟨_, rfl⟩
      obtain ⟨ok, hok⟩ : ∃ x, x = d.op.key := ⟨_, rfl⟩
      obtain ⟨oe, hoe⟩ : ∃ x, x = d.op.elem := ⟨_, rfl⟩
      obtain ⟨on, hon⟩ : ∃ x, x = d.op.n := ⟨_, rfl⟩
      have HD : Hid (⟨db, dk, d.t, di⟩ = d) := Lib.hid (by rw [hdb, hdk, hdi])
      rw [← hdb, ← hdk, ← hdi] at HOP
      unfold opv at HOP
      rw [← hkd, ← hok, ← hoe, ← hon] at HOP
      rw [← hdb, ← hdk] at c0 y0
      rw [← hdi] at c1 y1
      rw [← hdb, ← hdk, ← hdi] at hW5
      subst hs2
      have HST := Lib.hid (And.intro (hst.out.1.gr hg5) (hst.out.2.trans hg5))
      have HN2 := Lib.hid hn2
      have HDJ := Lib.hid hd
      have HKD := Lib.hid hkd
      clear hc0 hdx hg5 hn2 hst hd hkd hdb hdk hdi hok hoe hon
      go_upto_region 5 with (fail)
      rw [← hW5]
      clear hW5 c0 c1
      go_wp2_with fail
      refine (HOP.out _ (Gr.refl _)).mono ?_
      rintro e w6 ⟨rfl, g6⟩
      have hfl := fun W => run_field_kind kd ok oe on W
      have HG6 := Lib.hid g6
      have p0 := g6.cell y0
      have p1 := g6.cell y1
      clear g6 y0 y1
      by_cases hk : kd = k
      · have HST6 : Hid (DO (w6.alloc (.cells #[.pointer (some ⟨db, dk, none⟩), .int .i64 (di : Int)] 225)) w.heap.size (.slice A2 n2 c2) (kindF k (D.take j)) ∧ Gr w (w6.alloc (.cells #[.pointer (some ⟨db, dk, none⟩), .int .i64 (di : Int)] 225))) := Lib.hid ⟨(HST.out.1.gr HG6.out).gr (gr_box _ _), (HST.out.2.trans HG6.out).alloc _⟩
        have HNX : Hid (kindF k (D.take (j + 1)) = kindF k (D.take j) ++ [⟨db, dk, d.t, di⟩]) := Lib.hid (by rw [HD.out, HDJ.out]; exact kindF_yes hjl (by rw [← HDJ.out, ← HKD.out]; exact hk))
        subst hk
        go_wp2_with (at_builtin; refine wpList_push_dd (w0 := w) rfl (.tmp 19) (.tmp 21) rfl (.slice A2 n2 c2) (.slice (some ⟨w6.heap.size, 0, none⟩) 1 1) (kindF kd (D.take j)) [⟨db, dk, d.t, di⟩] n2 1 HN2.out rfl rfl HST6.out.1 rfl (dv_one w6 ⟨db, dk, d.t, di⟩ _ rfl) hln HST6.out.2 ?_)
        intro A9 c9 w9 hown9 hg9
        have HO9 := Lib.hid (And.intro hown9 hg9)
        clear hown9 hg9
        rw [← HNX.out] at HO9
        go_wp2_with fail
        go_roundw
        case measure => simp [intOf]; omega
        case rel => exact ⟨j + 1, by omega, by go_num, HO9⟩
      · have HNX : Hid (DO w6 w.heap.size (.slice A2 n2 c2) (kindF k (D.take (j + 1))) ∧ Gr w w6) := Lib.hid ⟨by rw [kindF_no hjl (by rw [← HDJ.out, ← HKD.out]; exact hk)]; exact HST.out.1.gr HG6.out, HST.out.2.trans HG6.out⟩
        go_wp2_with fail
        go_roundw
        case measure => simp [intOf]; omega
        case rel => exact ⟨j + 1, by omega, by go_num, HNX⟩
    · obtain rfl : j = n := by omega
      have HE : Hid (DO wr w.heap.size u5 (kindF k D) ∧ Gr w wr) := Lib.hid ⟨by have := hst.out.1; rw [HN.out, List.take_length] at this; exact this, hst.out.2⟩
      clear hst
      go_wp2_with fail
      go_ret
      exact ⟨_, rfl, HE.out⟩
/-- The numbers of the first j deeds, added. -/
def sumD (D : List DD) : Nat → Int
  | 0 => 0
  | j + 1 => sumD D j + (match D[j]? with | some d => d.op.n | none => 0)
theorem sumD_next {D : List DD} {j : Nat} (h : j < D.length) : sumD D (j + 1) = sumD D j + D[j].op.n := by
  show _ + _ = _
  rw [List.getElem?_eq_getElem h]
def totD (start : Int) (D : List DD) : Int := start + sumD (kindF 1 D) (kindF 1 D).length - sumD (kindF 2 D) (kindF 2 D).length
theorem wrap_add (x n : Int) : wrap64 (wrap64 x + n) = wrap64 (x + n) := by
  unfold wrap64
  omega
theorem wrap_sub (x n : Int) : wrap64 (wrap64 x - n) = wrap64 (x - n) := by
  unfold wrap64
  omega

set_option maxRecDepth 100000 in
set_option maxHeartbeats 4000000 in
theorem total_any (start : Int) (v : Value) (D : List DD) (w : World) (h : DV w v D) (hx : DXs w D) (hlen : D.length ≤ 65536) (hb : wrap64 start = start) :
    Calls Tryz.prog 181 #[.int .i64 start, v] w fun e w' => e = .returned (.int .i64 (wrap64 (totD start D))) ∧ Gr w w' := by
  have HX := Lib.hid hx
  have HK1 := Lib.hid (ofKind_any v D 1 w h hx hlen)
  have HK2 := Lib.hid (fun w1 (g : Gr w w1) => ofKind_any v D 2 w1 (h.gr g) (hx.gr g) hlen)
  obtain ⟨A, c, rfl⟩ := dv_form h
  obtain ⟨nD, hnD⟩ : ∃ n, n = D.length := ⟨_, rfl⟩
  rw [← hnD] at HK1 HK2 ⊢
  obtain ⟨D1, hD1⟩ : ∃ x, x = kindF 1 D := ⟨_, rfl⟩
  obtain ⟨D2, hD2⟩ : ∃ x, x = kindF 2 D := ⟨_, rfl⟩
  rw [← hD1] at HK1
  rw [← hD2] at HK2
  have HM1 := Lib.hid hD1
  have HM2 := Lib.hid hD2
  obtain ⟨s0, hs0⟩ : ∃ x, x = start := ⟨_, rfl⟩
  have HB : Hid (s0 = wrap64 (start + sumD D1 0)) := Lib.hid (by rw [hs0]; show start = wrap64 (start + 0); rw [Int.add_zero]; exact hb.symm)
  rw [← hs0] at ⊢
  have HS0 := Lib.hid hs0
  clear h hx hnD hD1 hD2 hs0 hb
  go_enter Tryz.func181, Tryz.ntmps181
  go_wp2_with fail
  refine HK1.out.mono ?_
  rintro e w2 ⟨s1, rfl, ho1, g2⟩
  obtain ⟨A1, c1, hs1⟩ := slice_dd ho1
  subst hs1
  obtain ⟨Ax, cx, hvx, -, -, hat1⟩ := ho1.dv
  injection hvx with e1 e2 e3
  subst e1 e3
  have HAT1 : Hid (∀ j (hj : j < D1.length), ∃ b off, A1 = some ⟨b, off, none⟩ ∧ DCell w2 b (off + j * 2) D1[j]) := Lib.hid hat1
  obtain ⟨n1, hn1⟩ : ∃ n, n = D1.length := ⟨_, rfl⟩
  rw [← hn1]
  have HN1 := Lib.hid hn1
  have hnb1 : n1 ≤ 65536 := by
    have := kindF_len 1 D D.length
    rw [List.take_length, ← HM1.out, ← hn1] at this
    omega
  have HG2 := Lib.hid g2
  clear ho1 e2 hat1 hn1 g2
  go_wp2_with fail
  go_loopw [0, 12] (fun s i wr => ∃ j : Nat, j ≤ n1 ∧ s = .int .i64 (wrap64 (start + sumD D1 j)) ∧ i = .int .i64 j ∧ Hid (Gr w2 wr ∧ Gr w wr)) (fun _ i _ => n1 - (intOf i).toNat)
  case atStart => exact ⟨0, Nat.zero_le _, by rw [HB.out], rfl, Lib.hid ⟨Gr.refl _, HG2.out⟩⟩
  case round =>
    obtain ⟨j, hj, rfl, rfl, hst⟩ := hrel
    rename World => wr
    by_cases hjn : j < n1
    · have hj0 : (0 : Int) ≤ (j : Int) := Int.natCast_nonneg _
      have hjn1 : (j : Int) < (n1 : Int) := by omega
      have hjl : j < D1.length := by rw [← HN1.out]; exact hjn
      obtain ⟨b, off, hA, hc0⟩ := HAT1.out j hjl
      subst hA
      obtain ⟨d, hd⟩ : ∃ d, d = D1[j] := ⟨_, rfl⟩
      rw [← hd] at hc0
      obtain ⟨c0, c1⟩ := hc0.gr hst.out.1
      have hdx : DX w d := HX.out d (kindF_mem (k := 1) (by rw [hd, ← HM1.out]; exact List.getElem_mem hjl))
      obtain ⟨W5, hW5, hg5, y0, y1⟩ := dbox wr d
      have HOP := Lib.hid (fun w1 (g : Gr W5 w1) => dop_any d w1 ((hdx.gr (hst.out.2.trans hg5)).gr g))
      obtain ⟨kd, hkd⟩ : ∃ x, x = d.op.kind := ⟨_, rfl⟩
      obtain ⟨db, hdb⟩ : ∃ x, x = d.b := ⟨_, rfl⟩
      obtain ⟨dk, hdk⟩ : ∃ x, x = d.o := ⟨_, rfl⟩
      obtain ⟨di, hdi⟩ : ∃ x, x = d.i := ⟨_, rfl⟩
      obtain ⟨ok, hok⟩ : ∃ x, x = d.op.key := ⟨_, rfl⟩
      obtain ⟨oe, hoe⟩ : ∃ x, x = d.op.elem := ⟨_, rfl⟩
      obtain ⟨on, hon⟩ : ∃ x, x = d.op.n := ⟨_, rfl⟩
      rw [← hdb, ← hdk, ← hdi] at HOP
      unfold opv at HOP
      rw [← hkd, ← hok, ← hoe, ← hon] at HOP
      rw [← hdb, ← hdk] at c0 y0
      rw [← hdi] at c1 y1
      rw [← hdb, ← hdk, ← hdi] at hW5
      have HG5 := Lib.hid (And.intro (hst.out.1.trans hg5) (hst.out.2.trans hg5))
      obtain ⟨x, hx⟩ : ∃ x, x = start + sumD D1 j := ⟨_, rfl⟩
      have HW : Hid (wrap64 (wrap64 x + on) = wrap64 (start + sumD D1 (j + 1))) := Lib.hid (by rw [wrap_add, hx, sumD_next hjl, ← hd, ← hon]; congr 1; omega)
      rw [← hx]
      clear hc0 hdx hg5 hst hd hkd hdb hdk hdi hok hoe hon hx
      go_upto_region 4 with (fail)
      rw [← hW5]
      clear hW5 c0 c1
      go_wp2_with fail
      refine (HOP.out _ (Gr.refl _)).mono ?_
      rintro e w6 ⟨rfl, g6⟩
      have hfl := fun W => run_field_n kd ok oe on W
      have HG6 := Lib.hid (And.intro (HG5.out.1.trans g6) (HG5.out.2.trans g6))
      clear g6 y0 y1
      go_wp2_with fail
      go_roundw
      case measure => simp [intOf]; omega
      case rel => exact ⟨j + 1, by omega, by rw [← HW.out], by go_num, HG6⟩
    · obtain rfl : j = n1 := by omega
      have HGW := Lib.hid hst.out.2
      obtain ⟨x1, hx1⟩ : ∃ x, x = start + sumD D1 j := ⟨_, rfl⟩
      rw [← hx1]
      have HX1 := Lib.hid hx1
      clear hst hx1
      go_wp2_with fail
      refine (HK2.out _ HGW.out).mono ?_
      rintro e w3 ⟨s2, rfl, ho2, g3⟩
      obtain ⟨A2, c2, hs2⟩ := slice_dd ho2
      subst hs2
      obtain ⟨Ax, cx, hvx, -, -, hat2⟩ := ho2.dv
      injection hvx with e1 e2 e3
      subst e1 e3
      have HAT2 : Hid (∀ j (hj : j < D2.length), ∃ b off, A2 = some ⟨b, off, none⟩ ∧ DCell w3 b (off + j * 2) D2[j]) := Lib.hid hat2
      obtain ⟨n2, hn2⟩ : ∃ n, n = D2.length := ⟨_, rfl⟩
      rw [← hn2]
      have HN2 := Lib.hid hn2
      have hnb2 : n2 ≤ 65536 := by
        have := kindF_len 2 D D.length
        rw [List.take_length, ← HM2.out, ← hn2] at this
        omega
      have HG3 := Lib.hid (HGW.out.trans g3)
      have HB2 : Hid (wrap64 x1 = wrap64 (x1 - sumD D2 0)) := Lib.hid (by show _ = wrap64 (x1 - 0); rw [Int.sub_zero])
      clear ho2 e2 hat2 hn2 g3
      obtain ⟨s3, hs3⟩ : ∃ x, x = wrap64 x1 := ⟨_, rfl⟩
      rw [← hs3] at HB2
      rw [← hs3]
      clear hs3
      go_wp2_with fail
      go_loopw [0, 25] (fun s i wr => ∃ j : Nat, j ≤ n2 ∧ s = .int .i64 (wrap64 (x1 - sumD D2 j)) ∧ i = .int .i64 j ∧ Hid (Gr w3 wr ∧ Gr w wr)) (fun _ i _ => n2 - (intOf i).toNat)
      case atStart => exact ⟨0, Nat.zero_le _, by rw [HB2.out], rfl, Lib.hid ⟨Gr.refl _, HG3.out⟩⟩
      case round =>
        obtain ⟨j, hj, rfl, rfl, hst⟩ := hrel
        rename World => wr
        by_cases hjn : j < n2
        · have hj0 : (0 : Int) ≤ (j : Int) := Int.natCast_nonneg _
          have hjn1 : (j : Int) < (n2 : Int) := by omega
          have hjl : j < D2.length := by rw [← HN2.out]; exact hjn
          obtain ⟨b, off, hA, hc0⟩ := HAT2.out j hjl
          subst hA
          obtain ⟨d, hd⟩ : ∃ d, d = D2[j] := ⟨_, rfl⟩
          rw [← hd] at hc0
          obtain ⟨c0, c1⟩ := hc0.gr hst.out.1
          have hdx : DX w d := HX.out d (kindF_mem (k := 2) (by rw [hd, ← HM2.out]; exact List.getElem_mem hjl))
          obtain ⟨W5, hW5, hg5, y0, y1⟩ := dbox wr d
          have HOP := Lib.hid (fun w1 (g : Gr W5 w1) => dop_any d w1 ((hdx.gr (hst.out.2.trans hg5)).gr g))
          obtain ⟨kd, hkd⟩ : ∃ x, x = d.op.kind := ⟨_, rfl⟩
          obtain ⟨db, hdb⟩ : ∃ x, x = d.b := ⟨_, rfl⟩
          obtain ⟨dk, hdk⟩ : ∃ x, x = d.o := ⟨_, rfl⟩
          obtain ⟨di, hdi⟩ : ∃ x, x = d.i := ⟨_, rfl⟩
          obtain ⟨ok, hok⟩ : ∃ x, x = d.op.key := ⟨_, rfl⟩
          obtain ⟨oe, hoe⟩ : ∃ x, x = d.op.elem := ⟨_, rfl⟩
          obtain ⟨on, hon⟩ : ∃ x, x = d.op.n := ⟨_, rfl⟩
          rw [← hdb, ← hdk, ← hdi] at HOP
          unfold opv at HOP
          rw [← hkd, ← hok, ← hoe, ← hon] at HOP
          rw [← hdb, ← hdk] at c0 y0
          rw [← hdi] at c1 y1
          rw [← hdb, ← hdk, ← hdi] at hW5
          have HG5 := Lib.hid (And.intro (hst.out.1.trans hg5) (hst.out.2.trans hg5))
          obtain ⟨x, hx⟩ : ∃ x, x = x1 - sumD D2 j := ⟨_, rfl⟩
          have HW : Hid (wrap64 (wrap64 x - on) = wrap64 (x1 - sumD D2 (j + 1))) := Lib.hid (by rw [wrap_sub, hx, sumD_next hjl, ← hd, ← hon]; congr 1; omega)
          rw [← hx]
          clear hc0 hdx hg5 hst hd hkd hdb hdk hdi hok hoe hon hx
          go_upto_region 9 with (fail)
          rw [← hW5]
          clear hW5 c0 c1
          go_wp2_with fail
          refine (HOP.out _ (Gr.refl _)).mono ?_
          rintro e w6 ⟨rfl, g6⟩
          have hfl := fun W => run_field_n kd ok oe on W
          have HG6 := Lib.hid (And.intro (HG5.out.1.trans g6) (HG5.out.2.trans g6))
          clear g6 y0 y1
          go_wp2_with fail
          go_roundw
          case measure => simp [intOf]; omega
          case rel => exact ⟨j + 1, by omega, by rw [← HW.out], by go_num, HG6⟩
        · obtain rfl : j = n2 := by omega
          have HE : Hid (wrap64 (x1 - sumD D2 j) = wrap64 (totD start D)) := Lib.hid (by unfold totD; rw [HX1.out, HN1.out, HN2.out, ← HM1.out, ← HM2.out])
          have HGF := Lib.hid hst.out.2
          obtain ⟨x2, hx2⟩ : ∃ x, x = wrap64 (x1 - sumD D2 j) := ⟨_, rfl⟩
          rw [← hx2] at HE ⊢
          clear hst hx2
          go_wp2_with fail
          go_ret
          exact ⟨by rw [HE.out, HS0.out]; rfl, HGF.out⟩
end Go.Proofs.YtnjmgknicffcbaaGreatDoor
