/- Walks: the deeds on a key. -/
import Derived.Test.YthbkbpodiebhgaaValA
import Derived.Test.YthbkbpodiebhgaaCutC
namespace Go.Proofs.Ythbkbpodiebhgaa
open Go.RowKit Go.Joins

/-- What the rounds of deedsOn leave. -/
structure DsR (w W : World) (L : List (TX × Nat)) (s : Value) (D : List DD) (wr : World) : Prop where
  own : DO wr W.heap.size s D
  sh : dsh D = L
  xs : DXs w D
  gr : Gr W wr
theorem DsR.next {w W : World} {L : List (TX × Nat)} {s : Value} {D : List DD} {wr w' : World} (h : DsR w W L s D wr) (g : Gr wr w') : DsR w W L s D w' := ⟨h.own.gr g, h.sh, h.xs, h.gr.trans g⟩
theorem opbox (w : World) (o : TO) : ∃ W, W = w.alloc (.cells (opv o) 41) ∧ Gr w W ∧ TCell W w.heap.size 0 o := by
  refine ⟨_, rfl, (Gr.refl w).alloc _, ?_⟩
  unfold TCell
  refine ⟨?_, ?_, ?_, ?_⟩ <;> (rw [World.cell?_alloc_at _ _ _ _ rfl]; rfl)
theorem slice_dd {w : World} {B : Nat} {s : Value} {D : List DD} (h : DO w B s D) : ∃ A c, s = .slice A D.length c := dv_form h.dv

set_option maxRecDepth 100000 in
set_option maxHeartbeats 4000000 in
theorem deeds_any (u : Nat → S3) (l : LG) (v : Nat → Nat) (key : ByteArray) (w : World) (h : LV w u l) (hv : leqB v (sizeV l) = true) (hops : ∀ i t, i < 8 → t ∈ l i → t.ops.length ≤ 8) (hlen : ∀ i, i < 8 → v i ≤ 1024) :
    Calls Try.prog 25 #[.agg (lcells u), .agg (vcells v), .string key] w fun e w' => ∃ s D, e = .returned s ∧ DsR w w (dAll key l v 8) s D w' := by
  obtain ⟨W, hW, hg, hsz, hL, hV⟩ := boxesLV u v w
  have HV := Lib.hid hV
  have HG := Lib.hid hg
  have HX := Lib.hid (h.gr hg)
  have HX0 := Lib.hid h
  have HVS := Lib.hid hv
  have HOP := Lib.hid hops
  have HVL := Lib.hid hlen
  have HDA := Lib.hid (fun i (hi : i ≤ 8) => dAll_len key l v hops hlen i hi)
  have HDL := Lib.hid (fun i (hi : i < 8) d => dLog_len key l i (fun t ht => hops i t hi ht) d)
  have HDT := Lib.hid (fun t j => dTx_len key t j)
  obtain ⟨l0, l1, l2, l3, l4, l5, l6, l7⟩ := hL.all
  clear hL hV hg hsz h hv hops hlen
  go_enter Try.func25, Try.ntmps25
  go_upto_region 1 with (fail)
  rw [← hW]
  clear hW
  go_wp2_with fail
  clear l0 l1 l2 l3 l4 l5 l6 l7
  go_loopw [7, 15] (fun s i wr => ∃ k : Nat, k ≤ 8 ∧ i = .int .i64 k ∧ Hid (∃ D, DsR w W (dAll key l v k) s D wr)) (fun _ i _ => 8 - (intOf i).toNat)
  case atStart => exact ⟨0, by decide, rfl, Lib.hid ⟨[], ⟨DO.nil _ _, rfl, fun _ h => (by cases h), Gr.refl _⟩⟩⟩
  case round =>
    obtain ⟨k, hk, rfl, hst⟩ := hrel
    rename World => wo
    by_cases hlt : k < 8
    · have hk0 : (0 : Int) ≤ (k : Int) := Int.natCast_nonneg _
      have hk8 : (k : Int) < 8 := by omega
      have hix := fun W => run_index_logs u hlt W
      obtain ⟨D0, hd0⟩ := hst.out
      have hc := (HV.out.gr hd0.gr).at hlt
      have hvl : v k ≤ (l k).length := lq HVS.out hlt
      obtain ⟨Ak, ck, hxv, hnc, -, hcell⟩ := HX.out k hlt
      injection hxv with e1 e2 e3
      obtain ⟨A, hA⟩ : ∃ A, A = (u k).a := ⟨_, rfl⟩
      obtain ⟨n, hn⟩ : ∃ n, n = (u k).n := ⟨_, rfl⟩
      obtain ⟨c, hcc⟩ : ∃ c, c = (u k).c := ⟨_, rfl⟩
      obtain ⟨m, hm⟩ : ∃ m, m = v k := ⟨_, rfl⟩
      rw [← hA, ← hn, ← hcc] at hix
      rw [← hm] at hc hvl
      have hnl : n = (l k).length := by rw [hn, e2]
      have hmc : m ≤ c := by rw [hcc, e3]; omega
      have hsl := fun W => slice_txs A (n := n) (k := m) (c := c) hmc W
      have HA := Lib.hid hA
      have HN := Lib.hid hnl
      have HM := Lib.hid hm
      have HML := Lib.hid hvl
      have HC := Lib.hid hc
      have HD0 := Lib.hid hd0
      clear hA hn hcc hm hnl hmc e1 e2 e3 hnc hcell hd0 hst hvl
      go_wp2_with fail
      clear hix hsl
      go_loopw [7, 25] (fun s i wr => ∃ d : Nat, d ≤ m ∧ i = .int .i64 d ∧ Hid (∃ D, DsR w W (dAll key l v k ++ dLog key l k d) s D wr)) (fun _ i _ => m - (intOf i).toNat)
      case atStart => exact ⟨0, Nat.zero_le _, rfl, Lib.hid ⟨D0, ⟨HD0.out.own, by rw [HD0.out.sh]; exact (List.append_nil _).symm, HD0.out.xs, HD0.out.gr⟩⟩⟩
      case round =>
        obtain ⟨d, hd, rfl, hst⟩ := hrel
        rename World => wi
        by_cases hdm : d < m
        · have hdl : d < (l k).length := by have := HML.out; omega
          have hd0 : (0 : Int) ≤ (d : Int) := Int.natCast_nonneg _
          have hdn : (d : Int) < (n : Int) := by have := HN.out; omega
          have hdm1 : (d : Int) < (m : Int) := by omega
          obtain ⟨D1, hd1⟩ := hst.out
          obtain ⟨b, off, ha, hxc⟩ := HX0.out.cell hlt hdl
          rw [← HA.out] at ha
          subst ha
          obtain ⟨t, ht⟩ : ∃ t, t = (l k)[d] := ⟨_, rfl⟩
          rw [← ht] at hxc
          have HT := Lib.hid (show (l k)[d]? = some t by rw [ht]; exact List.getElem?_eq_getElem hdl)
          have hto : t.ops.length ≤ 8 := HOP.out k t hlt (by rw [ht]; exact List.getElem_mem hdl)
          have HXC := Lib.hid hxc
          obtain ⟨vx, hvx, x0, x1, x2, x3, x4, x5, x6, x7, x8, x9, x10, x11⟩ := hxc
          obtain ⟨Ax, cx, rfl, hxn, -, hxat⟩ := hvx
          obtain ⟨nx, hnx⟩ : ∃ n, n = t.ops.length := ⟨_, rfl⟩
          rw [← hnx] at x11
          have x11 := (HG.out.trans hd1.gr).cell x11
          have HNX := Lib.hid hnx
          have HXA : Hid (∀ j (hj : j < t.ops.length), ∃ b off, Ax = some ⟨b, off, none⟩ ∧ TCell w b (off + j * 4) t.ops[j]) := Lib.hid hxat
          have HD1 := Lib.hid hd1
          have hnx8 : nx ≤ 8 := by omega
          clear x0 x1 x2 x3 x4 x5 x6 x7 x8 x9 x10 hxn hxat hnx hd1 hst ht hto
          go_wp2_with fail
          go_loopw [7, 36] (fun s i wr => ∃ j : Nat, j ≤ nx ∧ i = .int .i64 j ∧ Hid (∃ D, DsR w W (dAll key l v k ++ dLog key l k d ++ dTx key t j) s D wr)) (fun _ i _ => nx - (intOf i).toNat)
          case atStart => exact ⟨0, Nat.zero_le _, rfl, Lib.hid ⟨D1, ⟨HD1.out.own, by rw [HD1.out.sh]; exact (List.append_nil _).symm, HD1.out.xs, HD1.out.gr⟩⟩⟩
          case round =>
            clear x11
            obtain ⟨j, hj, rfl, hst⟩ := hrel
            rename World => wr
            by_cases hjn : j < nx
            · have hjl : j < t.ops.length := by rw [← HNX.out]; exact hjn
              have hj0 : (0 : Int) ≤ (j : Int) := Int.natCast_nonneg _
              have hjn1 : (j : Int) < (nx : Int) := by omega
              obtain ⟨D2, hd2⟩ := hst.out
              obtain ⟨bo, oo, rfl, hoc⟩ := HXA.out j hjl
              obtain ⟨o, ho⟩ : ∃ o, o = t.ops[j] := ⟨_, rfl⟩
              rw [← ho] at hoc
              have HO := Lib.hid (show t.ops[j]? = some o by rw [ho]; exact List.getElem?_eq_getElem hjl)
              obtain ⟨o0, o1, o2, o3⟩ := hoc.gr (HG.out.trans hd2.gr)
              obtain ⟨W5, hW5, hg5, hx5⟩ := opbox wr o
              obtain ⟨A2, c2, hs2⟩ := slice_dd hd2.own
              subst hs2
              have hlen2 : D2.length ≤ 8 * 8192 + 8192 + 8 := by
                have e1 : D2.length = (dsh D2).length := (List.length_map _).symm
                rw [e1, hd2.sh, List.length_append, List.length_append]
                have := HDA.out k (by omega)
                have := HDL.out k hlt d
                have := HDT.out t j
                have := HVL.out k hlt
                have := HM.out
                omega
              have hln : (D2.length + 1) * 16 ≤ 140737488355328 := by omega
              obtain ⟨n2, hn2⟩ : ∃ n, n = D2.length := ⟨_, rfl⟩
              rw [← hn2] at hln
              obtain ⟨q, hq⟩ : ∃ q, q = eqS o.key key := ⟨_, rfl⟩
              have t0 : (o.key.toList == key.toList) = q := hq.symm
              have HQ := Lib.hid hq
              have HD2 := Lib.hid (hd2.next hg5)
              have HN2 := Lib.hid hn2
              have HX5 := Lib.hid hx5
              have HB5 := Lib.hid (show wr.heap.size < W5.heap.size by rw [hW5]; simp)
              clear ho hoc hd2 hg5 hst hn2 hq hlen2
              go_upto_region 12 with (fail)
              rw [← hW5]
              clear o0 o1 o2 o3 hW5
              obtain ⟨y0, y1, y2, y3⟩ := hx5
              rcases q with _ | _
              · have HS : Hid (∃ D, DsR w W (dAll key l v k ++ dLog key l k d ++ dTx key t (j + 1)) (.slice A2 D2.length c2) D W5) := Lib.hid ⟨D2, by rw [dTx_no HO.out HQ.out.symm]; exact HD2.out⟩
                rw [← HN2.out] at HS ⊢
                go_wp2_with fail
                go_roundw
                case measure => simp [intOf]; omega
                case rel => exact ⟨j + 1, by omega, by go_num, HS⟩
              · have HDD : Hid (DX w ⟨b, off + d * 12, t, j⟩) := Lib.hid ⟨HXC.out, hjl⟩
                have HDO : Hid (DO (W5.alloc (.cells #[.pointer (some ⟨b, off + d * 12, none⟩), .int .i64 (j : Int)] 80)) W.heap.size (.slice A2 n2 c2) D2) := Lib.hid (by rw [HN2.out]; exact HD2.out.own.gr (gr_box _ _))
                rw [← HN2.out]
                clear hlt
                go_upto_region 14 with (at_builtin; refine wpList_push_dd (w0 := W) rfl (.tmp 45) (.tmp 49) rfl (.slice A2 n2 c2) (.slice (some ⟨W5.heap.size, 0, none⟩) 1 1) D2 [⟨b, off + d * 12, t, j⟩] n2 1 HN2.out rfl rfl HDO.out rfl (dv_one W5 ⟨b, off + d * 12, t, j⟩ _ rfl) hln (HD2.out.gr.alloc _) ?_; intro A9 c9 w9 hown9 hg9; have HO9 := Lib.hid hown9; have HG9 := Lib.hid hg9; clear hown9 hg9)
                have HS : Hid (∃ D, DsR w W (dAll key l v k ++ dLog key l k d ++ dTx key t (j + 1)) (.slice A9 (n2 + 1) c9) D w9) := Lib.hid ⟨D2 ++ [⟨b, off + d * 12, t, j⟩], ⟨HO9.out, by rw [dTx_yes HO.out HQ.out.symm, ← List.append_assoc, ← HD2.out.sh]; unfold dsh; rw [List.map_append]; rfl, fun x hx => by
                  rcases List.mem_append.1 hx with hx | hx
                  · exact HD2.out.xs x hx
                  · simp only [List.mem_singleton] at hx
                    subst hx
                    exact HDD.out, HG9.out⟩⟩
                go_wp2_with fail
                go_roundw
                case measure => simp [intOf]; omega
                case rel => exact ⟨j + 1, by omega, by go_num, HS⟩
            · obtain rfl : j = nx := by omega
              obtain ⟨D2, hd2⟩ := hst.out
              have HS : Hid (∃ D, DsR w W (dAll key l v k ++ dLog key l k (d + 1)) u7 D wr) := Lib.hid ⟨D2, ⟨hd2.own, by rw [dLog_at HT.out, ← HNX.out, ← List.append_assoc]; exact hd2.sh, hd2.xs, hd2.gr⟩⟩
              have hmb : m ≤ 1024 := by rw [HM.out]; exact HVL.out k hlt
              clear hd2 hst
              go_wp2_with fail
              go_roundw
              case measure => simp [intOf]; omega
              case rel => exact ⟨d + 1, by omega, by go_num, HS⟩
        · obtain rfl : d = m := by omega
          obtain ⟨D2, hd2⟩ := hst.out
          have HS : Hid (∃ D, DsR w W (dAll key l v (k + 1)) u7 D wi) := Lib.hid ⟨D2, ⟨hd2.own, by rw [hd2.sh, HM.out]; rfl, hd2.xs, hd2.gr⟩⟩
          clear hd2 hst
          go_wp2_with fail
          go_roundw
          case measure => simp [intOf]; omega
          case rel => exact ⟨k + 1, by omega, by go_num, HS⟩
    · obtain rfl : k = 8 := by omega
      obtain ⟨D2, hd2⟩ := hst.out
      have HS : Hid (∃ D, DsR w w (dAll key l v 8) u7 D wo) := Lib.hid ⟨D2, ⟨hd2.own.le HG.out.size, hd2.sh, hd2.xs, HG.out.trans hd2.gr⟩⟩
      clear hd2 hst
      go_wp2_with fail
      go_ret
      exact ⟨_, _, rfl, HS.out.choose_spec⟩
end Go.Proofs.Ythbkbpodiebhgaa
