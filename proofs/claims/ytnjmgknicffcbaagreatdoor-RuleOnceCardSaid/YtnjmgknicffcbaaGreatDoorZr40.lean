/- Walks: was no element added twice to a key? -/
import Derived.Test.YtnjmgknicffcbaaGreatDoorZr39
import Derived.Test.YtnjmgknicffcbaaGreatDoorZr02
import Derived.Test.YtnjmgknicffcbaaGreatDoorZr18
import Derived.Test.YtnjmgknicffcbaaGreatDoorZr08
namespace Go.Proofs.YtnjmgknicffcbaaGreatDoor
open Go.RowKit Go.Joins
set_option linter.unusedSimpArgs false
set_option linter.unusedVariables false

/-- The cells of a sight: its rules, its eight logs, its cut, its map. -/
abbrev sgc (r : S3) (u : Nat → S3) (a : Nat → Nat) (b : Nat) : Array Value := #[.slice r.a r.n r.c, .slice (u 0).a (u 0).n (u 0).c, .slice (u 1).a (u 1).n (u 1).c, .slice (u 2).a (u 2).n (u 2).c, .slice (u 3).a (u 3).n (u 3).c, .slice (u 4).a (u 4).n (u 4).c, .slice (u 5).a (u 5).n (u 5).c, .slice (u 6).a (u 6).n (u 6).c, .slice (u 7).a (u 7).n (u 7).c, .int .u64 (a 0 : Int), .int .u64 (a 1 : Int), .int .u64 (a 2 : Int), .int .u64 (a 3 : Int), .int .u64 (a 4 : Int), .int .u64 (a 5 : Int), .int .u64 (a 6 : Int), .int .u64 (a 7 : Int), .map (some b)]
structure SgB (w : World) (p : Nat) (r : S3) (u : Nat → S3) (a : Nat → Nat) (b : Nat) : Prop where
  box : w.heap[p]? = some (.cells (sgc r u a b) 90 (0, 0))
/-- The cells, one by one. -/
def SgC (w : World) (p : Nat) (r : S3) (u : Nat → S3) (a : Nat → Nat) (b : Nat) : Prop :=
  w.cell? ⟨p, 0, none⟩ = some (.slice r.a r.n r.c) ∧ w.cell? ⟨p, 1, none⟩ = some (.slice (u 0).a (u 0).n (u 0).c) ∧ w.cell? ⟨p, 2, none⟩ = some (.slice (u 1).a (u 1).n (u 1).c) ∧ w.cell? ⟨p, 3, none⟩ = some (.slice (u 2).a (u 2).n (u 2).c) ∧ w.cell? ⟨p, 4, none⟩ = some (.slice (u 3).a (u 3).n (u 3).c) ∧ w.cell? ⟨p, 5, none⟩ = some (.slice (u 4).a (u 4).n (u 4).c) ∧ w.cell? ⟨p, 6, none⟩ = some (.slice (u 5).a (u 5).n (u 5).c) ∧ w.cell? ⟨p, 7, none⟩ = some (.slice (u 6).a (u 6).n (u 6).c) ∧ w.cell? ⟨p, 8, none⟩ = some (.slice (u 7).a (u 7).n (u 7).c) ∧ w.cell? ⟨p, 9, none⟩ = some (.int .u64 (a 0 : Int)) ∧ w.cell? ⟨p, 10, none⟩ = some (.int .u64 (a 1 : Int)) ∧ w.cell? ⟨p, 11, none⟩ = some (.int .u64 (a 2 : Int)) ∧ w.cell? ⟨p, 12, none⟩ = some (.int .u64 (a 3 : Int)) ∧ w.cell? ⟨p, 13, none⟩ = some (.int .u64 (a 4 : Int)) ∧ w.cell? ⟨p, 14, none⟩ = some (.int .u64 (a 5 : Int)) ∧ w.cell? ⟨p, 15, none⟩ = some (.int .u64 (a 6 : Int)) ∧ w.cell? ⟨p, 16, none⟩ = some (.int .u64 (a 7 : Int)) ∧ w.cell? ⟨p, 17, none⟩ = some (.map (some b))
theorem SgB.gr {w w' : World} {p : Nat} {r : S3} {u : Nat → S3} {a : Nat → Nat} {b : Nat} (k : SgB w p r u a b) (g : Gr w w') : SgB w' p r u a b := ⟨gr_obj g k.box⟩
theorem SgB.all {w : World} {p : Nat} {r : S3} {u : Nat → S3} {a : Nat → Nat} {b : Nat} (k : SgB w p r u a b) : SgC w p r u a b :=
  ⟨by rw [cell_of_block k.box]; rfl, by rw [cell_of_block k.box]; rfl, by rw [cell_of_block k.box]; rfl, by rw [cell_of_block k.box]; rfl, by rw [cell_of_block k.box]; rfl, by rw [cell_of_block k.box]; rfl, by rw [cell_of_block k.box]; rfl, by rw [cell_of_block k.box]; rfl, by rw [cell_of_block k.box]; rfl,
   by rw [cell_of_block k.box]; rfl, by rw [cell_of_block k.box]; rfl, by rw [cell_of_block k.box]; rfl, by rw [cell_of_block k.box]; rfl, by rw [cell_of_block k.box]; rfl, by rw [cell_of_block k.box]; rfl, by rw [cell_of_block k.box]; rfl, by rw [cell_of_block k.box]; rfl, by rw [cell_of_block k.box]; rfl⟩
theorem SgB.cut {w : World} {p : Nat} {r : S3} {u : Nat → S3} {a : Nat → Nat} {b : Nat} (k : SgB w p r u a b) {i : Nat} (hi : i < 8) : w.cell? ⟨p, 9 + i, none⟩ = some (.int .u64 (a i : Int)) := by
  rw [cell_of_block k.box]
  match i, hi with
  | 0, _ => rfl
  | 1, _ => rfl
  | 2, _ => rfl
  | 3, _ => rfl
  | 4, _ => rfl
  | 5, _ => rfl
  | 6, _ => rfl
  | 7, _ => rfl
theorem sgbox (w : World) (r : S3) (u : Nat → S3) (a : Nat → Nat) (b : Nat) : ∃ W, W = w.alloc (.cells (sgc r u a b) 90) ∧ Gr w W ∧ SgB W w.heap.size r u a b ∧ W.heap.size = w.heap.size + 1 := by
  refine ⟨_, rfl, (Gr.refl w).alloc _, ⟨heap_alloc _ _ _⟩, by simp⟩
theorem okOp_size {l : LG} (h : OkL l) {i k : Nat} {t : TX} (hi : i < 8) (ht : (l i)[k]? = some t) {j : Nat} (hj : j < t.ops.length) : t.ops[j].elem.size ≤ 32 :=
  ((h.tx i k t hi ht).1.2.2.2 _ (List.getElem_mem hj)).2.1
theorem bneF {a b : Int} (h : ¬ a = b) : (a != b) = true := by simpa using h
/-- What the rounds of once leave. -/
structure OnR (W1 : World) (M : Nat) (K : List ByteArray) (wr : World) : Prop where
  set : SetM wr M K.length K
  nd : K.Nodup
  gr : Gr W1 wr
theorem OnR.next {W1 : World} {M : Nat} {K : List ByteArray} {wr w' : World} (h : OnR W1 M K wr) (g : Gr wr w') : OnR W1 M K w' := ⟨h.set.gr g, h.nd, h.gr.trans g⟩
set_option maxRecDepth 100000 in
set_option maxHeartbeats 8000000 in
theorem once_any (r : S3) (u : Nat → S3) (l : LG) (v : Nat → Nat) (b : Nat) (key : ByteArray) (w : World) (h : LV w u l) (hok : OkL l) (hv : leqB v (sizeV l) = true) :
    Calls Tryz.prog 98 #[.agg (sgc r u v b), .string key] w fun e w' => e = .returned (.bool (onceB key l v)) ∧ Gr w w' := by
  obtain ⟨W1, hW1, hg1, hb1, hsz1⟩ := sgbox w r u v b
  obtain ⟨W, hW, hgW⟩ : ∃ W, W = W1.alloc (.map #[] 0) ∧ Gr W1 W := ⟨_, rfl, (Gr.refl _).alloc _⟩
  have HR0 : Hid (OnR W1 (w.heap.size + 1) [] W) := Lib.hid ⟨by rw [hW, ← hsz1]; exact SetM.made W1, List.nodup_nil, hgW⟩
  have HB1 := Lib.hid hb1
  have HG1 := Lib.hid hg1
  have HX1 := Lib.hid (h.gr hg1)
  have HVS := Lib.hid hv
  have HOK := Lib.hid hok
  have HSZ1 := Lib.hid hsz1
  have HVL : Hid (∀ i, i < 8 → v i ≤ 1024) := Lib.hid fun i hi => by
    have h1 := lq hv hi
    have h2 := hok.len i hi
    unfold sizeV at h1
    omega
  have HOP : Hid (∀ i t, i < 8 → t ∈ l i → t.ops.length ≤ 8) := Lib.hid fun i t hi ht => by
    obtain ⟨k, hk⟩ := List.mem_iff_getElem?.1 ht
    exact (hok.tx i k t hi hk).1.2.2.1
  have HDA := Lib.hid (fun i (hi : i ≤ 8) => aAll_len key l v HOP.out HVL.out i hi)
  have HDL := Lib.hid (fun i (hi : i < 8) d => aLog_len key l i (fun t ht => HOP.out i t hi ht) d)
  have HDT := Lib.hid (fun t j => aTx_len key t j)
  obtain ⟨l0, l1, l2, l3, l4, l5, l6, l7, l8, l9, l10, l11, l12, l13, l14, l15, l16, l17⟩ := (hb1.gr hgW).all
  have hmm := @run_makeMap Tryz.prog
  rw [hW1] at hW
  clear hb1 hg1 h hv hok hgW hsz1 hW1
  go_enter Tryz.func98, Tryz.ntmps98
  go_upto_region 2 with (fail)
  rw [← hW]
  clear hW hmm
  go_wp2_with fail
  clear l0 l1 l2 l3 l4 l5 l6 l7 l8 l9 l10 l11 l12 l13 l14 l15 l16 l17
  go_loopw [17] (fun i wr => ∃ k : Nat, k ≤ 8 ∧ i = .int .i64 k ∧ Hid (OnR W1 (w.heap.size + 1) (aAll key l v k) wr)) (fun i _ => 8 - (intOf i).toNat)
  case atStart => exact ⟨0, by decide, rfl, HR0⟩
  case round =>
    obtain ⟨k, hk, rfl, hst⟩ := hrel
    rename World => wo
    by_cases hlt : k < 8
    · have hk0 : (0 : Int) ≤ (k : Int) := Int.natCast_nonneg _
      have hk8 : (k : Int) < 8 := by omega
      have hix := fun W => run_index_logs u hlt W
      have hc := (HB1.out.gr hst.out.gr).cut hlt
      have hvl : v k ≤ (l k).length := lq HVS.out hlt
      obtain ⟨Ak, ck, hxv, hnc, -, hcell⟩ := HX1.out k hlt
      injection hxv with e1 e2 e3
      obtain ⟨A, hA⟩ : ∃ A, A = (u k).a := ⟨_, rfl⟩
      obtain ⟨n, hn⟩ : ∃ n, n = (u k).n := ⟨_, rfl⟩
      obtain ⟨c, hcc⟩ : ∃ c, c = (u k).c := ⟨_, rfl⟩
      obtain ⟨m, hm⟩ : ∃ m, m = v k := ⟨_, rfl⟩
      rw [← hA, ← hn, ← hcc] at hix
      rw [← hm] at hc hvl
      have hnl : n = (l k).length := by rw [hn, e2]
      have hmc : m ≤ c := by rw [hcc, e3]; omega
      have hsl := fun W => slice_txs A (n := n) (k := m) (c := c) hmc W
      have HA := Lib.hid hA
      have HN := Lib.hid hnl
      have HM := Lib.hid hm
      have HML := Lib.hid hvl
      have HC := Lib.hid hc
      have HD0 := hst
      clear hA hn hcc hm hnl hmc e1 e2 e3 hnc hcell hst hvl
      go_wp2_with fail
      clear hix hsl hc
      go_loopw [28] (fun i wr => ∃ d : Nat, d ≤ m ∧ i = .int .i64 d ∧ Hid (OnR W1 (w.heap.size + 1) (aAll key l v k ++ aLog key l k d) wr)) (fun i _ => m - (intOf i).toNat)
      case atStart => exact ⟨0, Nat.zero_le _, rfl, Lib.hid (by rw [show aAll key l v k ++ aLog key l k 0 = aAll key l v k from List.append_nil _]; exact HD0.out)⟩
      case round =>
        obtain ⟨d, hd, rfl, hst⟩ := hrel
        rename World => wi
        by_cases hdm : d < m
        · have hdl : d < (l k).length := by have := HML.out; omega
          have hd0 : (0 : Int) ≤ (d : Int) := Int.natCast_nonneg _
          have hdm1 : (d : Int) < (m : Int) := by omega
          obtain ⟨bb, off, ha, hxc⟩ := HX1.out.cell hlt hdl
          rw [← HA.out] at ha
          subst ha
          obtain ⟨t, ht⟩ : ∃ t, t = (l k)[d] := ⟨_, rfl⟩
          rw [← ht] at hxc
          have HT := Lib.hid (show (l k)[d]? = some t by rw [ht]; exact List.getElem?_eq_getElem hdl)
          have hto : t.ops.length ≤ 8 := HOP.out k t hlt (by rw [ht]; exact List.getElem_mem hdl)
          obtain ⟨vx, hvx, x0, x1, x2, x3, x4, x5, x6, x7, x8, x9, x10, x11⟩ := hxc
          have x0 := hst.out.gr.cell x0
          have x1 := hst.out.gr.cell x1
          have x2 := hst.out.gr.cell x2
          have x3 := hst.out.gr.cell x3
          have x4 := hst.out.gr.cell x4
          have x5 := hst.out.gr.cell x5
          have x6 := hst.out.gr.cell x6
          have x7 := hst.out.gr.cell x7
          have x8 := hst.out.gr.cell x8
          have x9 := hst.out.gr.cell x9
          have x10 := hst.out.gr.cell x10
          have x11 := hst.out.gr.cell x11
          obtain ⟨Ax, cx, rfl, hxn, -, hxat⟩ := hvx
          obtain ⟨W4, hW4, hg4, hx4⟩ := xbox wi t (.slice Ax t.ops.length cx)
          obtain ⟨nx, hnx⟩ : ∃ n, n = t.ops.length := ⟨_, rfl⟩
          rw [← hnx] at x11 hW4 hx4
          have HNX := Lib.hid hnx
          have HXA : Hid (∀ j (hj : j < t.ops.length), ∃ b off, Ax = some ⟨b, off, none⟩ ∧ TCell W1 b (off + j * 4) t.ops[j]) := Lib.hid hxat
          have HD4 := Lib.hid (hst.out.next hg4)
          have HX4 := Lib.hid hx4
          have HOPK : Hid (∀ j (hj : j < t.ops.length), t.ops[j].elem.size ≤ 32) := Lib.hid fun j hj => (okOp_size HOK.out hlt HT.out hj)
          have hnx8 : nx ≤ 8 := by omega
          clear hxn hxat hnx hst ht hto hg4 hx4
          go_upto_region 8 with (fail)
          change Code.wp Tryz.prog _ _ _ (wi.alloc (.cells (tcs t (.slice Ax nx cx)) 47))
          rw [← hW4]
          clear hW4 x0 x1 x2 x3 x4 x5 x6 x7 x8 x9 x10 x11
          obtain ⟨y0, y1, y2, y3, y4, y5, y6, y7, y8, y9, y10, y11⟩ := HX4.out
          go_wp2_with fail
          clear y0 y1 y2 y3 y4 y5 y6 y7 y8 y9 y10 y11
          go_loopw [35] (fun i wr => ∃ j : Nat, j ≤ nx ∧ i = .int .i64 j ∧ Hid (OnR W1 (w.heap.size + 1) (aAll key l v k ++ aLog key l k d ++ aTx key t j) wr)) (fun i _ => nx - (intOf i).toNat)
          case atStart => exact ⟨0, Nat.zero_le _, rfl, Lib.hid (by rw [show aAll key l v k ++ aLog key l k d ++ aTx key t 0 = aAll key l v k ++ aLog key l k d from List.append_nil _]; exact HD4.out)⟩
          case round =>
            obtain ⟨j, hj, rfl, hst⟩ := hrel
            rename World => wr
            by_cases hjn : j < nx
            · have hjl : j < t.ops.length := by rw [← HNX.out]; exact hjn
              have hj0 : (0 : Int) ≤ (j : Int) := Int.natCast_nonneg _
              have hjn1 : (j : Int) < (nx : Int) := by omega
              obtain ⟨bo, oo, rfl, hoc⟩ := HXA.out j hjl
              obtain ⟨o, ho⟩ : ∃ o, o = t.ops[j] := ⟨_, rfl⟩
              rw [← ho] at hoc
              have HO := Lib.hid (show t.ops[j]? = some o by rw [ho]; exact List.getElem?_eq_getElem hjl)
              have HES : Hid (o.elem.size ≤ maxLen) := Lib.hid (by have := HOPK.out j hjl; rw [← ho] at this; unfold maxLen; omega)
              obtain ⟨o0, o1, o2, o3⟩ := hoc.gr hst.out.gr
              obtain ⟨W5, hW5, hg5, hx5⟩ := opbox wr o
              have HP1 : Hid (aAll key l v k ++ aLog key l k d ++ aTx key t (j + 1) <+: aAll key l v 8) := Lib.hid (aAll_pre hlt (by rw [← HM.out]; exact hdm) HT.out hjl)
              obtain ⟨K, hK⟩ : ∃ K, K = aAll key l v k ++ aLog key l k d ++ aTx key t j := ⟨_, rfl⟩
              rw [← hK] at hst
              have HKL : Hid (K.length < maxLen) := Lib.hid (by
                have h1 := HDA.out k (by omega)
                have h2 := HDL.out k hlt d
                have h3 := HDT.out t j
                have h4 := HVL.out k hlt
                have h5 := HM.out
                rw [hK, List.length_append, List.length_append]
                unfold maxLen
                omega)
              have HNO : Hid (¬ (o.kind = 4 ∧ eqS o.key key = true) → aAll key l v k ++ aLog key l k d ++ aTx key t (j + 1) = K) := Lib.hid fun q => by rw [aTx_no HO.out q, hK]
              have HYE : Hid (o.kind = 4 → eqS o.key key = true → aAll key l v k ++ aLog key l k d ++ aTx key t (j + 1) = K ++ [o.elem]) := Lib.hid fun q1 q2 => by rw [aTx_yes HO.out q1 q2, hK, ← List.append_assoc]
              obtain ⟨ok, oky, oe, on⟩ := o
              simp only at HES HNO HYE
              have HN5 := Lib.hid (hst.out.next hg5)
              have HX5 := Lib.hid hx5
              have HB5 := Lib.hid (And.intro (show wr.heap.size < W5.heap.size by rw [hW5]; simp) (show w.heap.size + 1 < wr.heap.size from by obtain ⟨F, h1, _⟩ := hst.out.set; exact h1.lt))
              obtain ⟨q, hq⟩ : ∃ q, q = eqS oky key := ⟨_, rfl⟩
              have HQ := Lib.hid hq
              have HT0 : Hid ((oky.toList == key.toList) = q) := Lib.hid hq.symm
              clear ho hoc hg5 hst hK hq hx5 HDA HDL
              go_upto_region 11 with (fail)
              change Code.wp Tryz.prog _ _ _ (wr.alloc (.cells (opv ⟨ok, oky, oe, on⟩) 52))
              rw [← hW5]
              clear hW5 o0 o1 o2 o3
              obtain ⟨y0, y1, y2, y3⟩ := HX5.out
              by_cases hk4 : ok = 4
              · subst hk4
                have t1 : ((4 : Int) != 4) = false := rfl
                rcases q with _ | _
                · have t0 : (oky.toList == key.toList) = false := HT0.out
                  have HS : Hid (OnR W1 (w.heap.size + 1) (aAll key l v k ++ aLog key l k d ++ aTx key t (j + 1)) W5) := Lib.hid (by rw [HNO.out (fun x => by rw [← HQ.out] at x; exact absurd x.2 (by decide))]; exact HN5.out)
                  go_wp2_with fail
                  go_roundw
                  case measure => simp [intOf]; omega
                  case rel => exact ⟨j + 1, by omega, by go_num, HS⟩
                · have t0 : (oky.toList == key.toList) = true := HT0.out
                  have HYE2 := Lib.hid (HYE.out rfl HQ.out.symm)
                  have hlk := HN5.out.set.look oe HES.out
                  obtain ⟨z, hz⟩ : ∃ z, z = hasK K oe := ⟨_, rfl⟩
                  rw [← hz] at hlk
                  have HZ := Lib.hid hz
                  clear hz
                  go_upto_region 13 with (fail)
                  obtain ⟨W6, hW6, hg6⟩ : ∃ X, X = W5.alloc (.cells #[] 178) ∧ Gr W5 X := ⟨_, rfl, (Gr.refl _).alloc _⟩
                  have HX6 := Lib.hid (HX5.out.gr hg6)
                  have HN6 := Lib.hid (HN5.out.next hg6)
                  change Code.wp Tryz.prog _ _ _ (W5.alloc (.cells #[] 178))
                  rw [← hW6]
                  clear hW6 hg6 y0 y1 y2 y3 hlk
                  rcases z with _ | _
                  · obtain ⟨y0, y1, y2, y3⟩ := HX6.out
                    go_wp2_with (first | (at_mapUpdate; refine wpList_putU rfl (.tmp 56) (.tmp 58) (.tmp 59) rfl (w.heap.size + 1) K.length K rfl HN6.out.set HKL.out oe HES.out rfl rfl ?_))
                    intro w8 hset8 hgrow8
                    have HS : Hid (OnR W1 (w.heap.size + 1) (aAll key l v k ++ aLog key l k d ++ aTx key t (j + 1)) w8) := Lib.hid (by
                      rw [HYE2.out]
                      exact ⟨by rw [List.length_append]; exact hset8, nodup_snoc HN6.out.nd HZ.out.symm, HN6.out.gr.trans_kp hgrow8 (by rw [HSZ1.out]; exact Nat.le_refl _)⟩)
                    clear y0 y1 y2 y3 hset8 hgrow8
                    go_wp2_with fail
                    go_roundw
                    case measure => simp [intOf]; omega
                    case rel => exact ⟨j + 1, by omega, by go_num, HS⟩
                  · have HS : Hid (onceB key l v = false ∧ Gr w W6) := Lib.hid ⟨once_no (K := K) (e := oe) (by rw [← HYE2.out]; exact HP1.out) HZ.out.symm, HG1.out.trans HN6.out.gr⟩
                    go_wp2_with fail
                    go_ret
                    exact ⟨by rw [HS.out.1]; rfl, HS.out.2⟩
              · have t1 : (ok != 4) = true := bneF hk4
                have HS : Hid (OnR W1 (w.heap.size + 1) (aAll key l v k ++ aLog key l k d ++ aTx key t (j + 1)) W5) := Lib.hid (by rw [HNO.out (fun x => hk4 x.1)]; exact HN5.out)
                go_wp2_with fail
                go_roundw
                case measure => simp [intOf]; omega
                case rel => exact ⟨j + 1, by omega, by go_num, HS⟩
            · obtain rfl : j = nx := by omega
              have HS : Hid (OnR W1 (w.heap.size + 1) (aAll key l v k ++ aLog key l k (d + 1)) wr) := Lib.hid (by rw [aLog_at HT.out, ← HNX.out, ← List.append_assoc]; exact hst.out)
              have hmb : m ≤ 1024 := by rw [HM.out]; exact HVL.out k hlt
              clear hst
              go_wp2_with fail
              go_roundw
              case measure => simp [intOf]; omega
              case rel => exact ⟨d + 1, by omega, by go_num, HS⟩
        · obtain rfl : d = m := by omega
          have HS : Hid (OnR W1 (w.heap.size + 1) (aAll key l v (k + 1)) wi) := Lib.hid (by have := hst.out; rw [HM.out] at this; exact this)
          clear hst
          go_wp2_with fail
          go_roundw
          case measure => simp [intOf]; omega
          case rel => exact ⟨k + 1, by omega, by go_num, HS⟩
    · obtain rfl : k = 8 := by omega
      have HS : Hid (onceB key l v = true ∧ Gr w wo) := Lib.hid ⟨once_yes hst.out.nd, HG1.out.trans hst.out.gr⟩
      clear hst
      go_wp2_with fail
      go_ret
      exact ⟨by rw [HS.out.1]; rfl, HS.out.2⟩
end Go.Proofs.YtnjmgknicffcbaaGreatDoor
