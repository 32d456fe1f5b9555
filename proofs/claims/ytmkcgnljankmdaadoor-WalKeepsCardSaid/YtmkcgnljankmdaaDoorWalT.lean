/- The law WalKeeps: behind every crash a beginning of the records is there, with all that were synced. -/
import Derived.Test.YtmkcgnljankmdaaDoorWalR
import Derived.Test.YtmkcgnljankmdaaDoorWalS
import Derived.Test.YtmkcgnljankmdaaDoorDiskI
import Derived.Deep.RegionHeld3
namespace Go.Proofs.YtmkcgnljankmdaaDoor
open Go.RowKit

def datas (L : List ByteArray) : List (List UInt8) := L.map fun s => s.data.toList
theorem datas_bs (L : List ByteArray) : (datas L).map bs = L := by
  unfold datas
  rw [List.map_map]
  conv => rhs; rw [← List.map_id L]
  exact List.map_congr_left (fun s _ => bs_data s)
theorem SV.take {w : World} {n c k : Nat} {A : Option Addr} {L : List ByteArray} (h : SV w (.slice A n c) L) (hk : k ≤ L.length) : SV w (.slice A k c) (L.take k) := by
  obtain ⟨A', c', hv, h1, h2, h3⟩ := h
  injection hv with e1 e2 e3
  subst e1 e3
  refine ⟨A, c, by rw [List.length_take, Nat.min_eq_left hk], by rw [List.length_take]; omega, h2, fun j hj => ?_⟩
  rw [List.length_take] at hj
  obtain ⟨b, off, ha, hc⟩ := h3 j (by omega)
  exact ⟨b, off, ha, by rw [List.getElem_take]; exact hc⟩
/-- append of strings to a row of the call's own, from block B on. -/
theorem wpList_push_strs_b {W : World} (B : Nat) {ops : Array Oper} {rest : List Oper} {o : Oper} {a : Act} {Q : Exit → Act → World → Prop} (hgd : o.guard = none) (s x : Operand)
    (ho : o.op = .call { callee := .builtin .append, args := #[s, x], argTypes := #[27, 27] })
    (v vx : Value) (L M : List ByteArray) (hs : a.eval s = v) (hown : SO W B v L) (hx : a.eval x = vx) (hxv : SV W vx M) (hlen : (L.length + M.length) * 16 ≤ 140737488355328) (hB : B ≤ W.heap.size)
    (h : ∀ A' c' w', SO w' B (.slice A' (L.length + M.length) c') (L ++ M) → W.grownBy w' v.ownBlock → wpList Tryd.prog ops Q rest (a.put o.dst (.slice A' (L.length + M.length) c')) w') :
    wpList Tryd.prog ops Q (o :: rest) a W := by
  obtain ⟨i0, hi, hz0, hz1, hz2⟩ := info_parts infoString
  refine wpList_append_sl _ hgd s x 27 ho B 9 i0 _ 1 16 Tryd.underlying27 hi hz0 hz1 hz2 rfl (by decide) v L.length (L.map Value.string) hs hown vx M.length (M.map Value.string) hx
    hxv.sl (strs_one M) (by unfold maxLen; omega) hlen hB (L.length + M.length) rfl ?_
  intro A' c' w' hown' hgr _
  refine h A' c' w' ?_ hgr
  unfold SO
  rw [List.length_append, List.map_append]
  exact hown'
/-- The box b holds the disk L, the row v8 the records so far. -/
structure KBox (b : Nat) (vd : Value) (L : List F) (v8 : Value) (H : List ByteArray) (w1 wr : World) : Prop where
  cell : wr.cell? ⟨b, 0, none⟩ = some vd
  free : wr.frozen? ⟨b, 0, none⟩ = false
  disk : FO wr (b + 1) vd L
  had : SO wr (b + 1) v8 H
  gr : Gr w1 wr
  lo : b < wr.heap.size
  low : w1.heap.size ≤ b
section
variable {b : Nat} {vd : Value} {L : List F} {v8 : Value} {H : List ByteArray} {w1 wr : World}
theorem KBox.grow (h : KBox b vd L v8 H w1 wr) {w' : World} (g : Gr wr w') : KBox b vd L v8 H w1 w' :=
  ⟨g.cell h.cell, g.frozen h.lo h.free, h.disk.gr g, h.had.gr g, h.gr.trans g, Nat.lt_of_lt_of_le h.lo g.size, h.low⟩
theorem KBox.put (h : KBox b vd L v8 H w1 wr) {W3 : World} {B : Nat} {v3 : Value} {L' : List F} (g : Gr wr W3) (hF : FO W3 B v3 L') (hB : b < B) : KBox b v3 L' v8 H w1 (W3.setCell ⟨b, 0, none⟩ v3) := by
  have k := h.grow g
  refine ⟨setCell_here k.cell, by rw [World.frozen?_setCell]; exact k.free, FO.set (hF.le hB) (fun x hx e => ?_) 0 _, own_set_other k.had (fun e => own_far k.had (b := b) (Nat.lt_succ_self b) e.symm) 0 _, Below.setCell k.gr (show w1.heap.size ≤ b from k.low) _, by have := k.lo; simpa [World.setCell] using this, k.low⟩
  have := (World.ownsRow.lt hF x hx).1
  omega
theorem KBox.push (h : KBox b vd L v8 H w1 wr) {w' : World} {v' : Value} {H' : List ByteArray} (ho : SO w' (b + 1) v' H') (hg : wr.grownBy w' v8.ownBlock) : KBox b vd L v' H' w1 w' := by
  have hne : some b ≠ v8.ownBlock := own_far h.had (Nat.lt_succ_self b)
  refine ⟨World.grownBy.cell hg h.cell hne, (World.grownBy.frozen_far hg ⟨b, 0, none⟩ h.lo hne).trans h.free, World.ownsRow.kept h.disk hg ?_, ho, gr_of_grown h.gr (own_le h.had (Nat.le_trans h.low (Nat.le_succ b))) hg (Nat.le_trans h.low (Nat.le_of_lt h.lo)), Nat.lt_of_lt_of_le h.lo (World.grownBy.size hg), h.low⟩
  cases e : vd.ownBlock with
  | none => exact .inl rfl
  | some x => exact .inr (fun e2 => own_types h.disk h.had (by decide) e e2.symm)
end
abbrev KC (b : Nat) (vd : Value) (b0 o0 : Nat) (r : ByteArray) (W w' : World) : Prop := w'.cell? ⟨b, 0, none⟩ = some vd ∧ w'.cell? ⟨b0, o0, none⟩ = some (.string r) ∧ Gr W w'
theorem KC.gr {b : Nat} {vd : Value} {b0 o0 : Nat} {r : ByteArray} {W w1 w2 : World} (h : KC b vd b0 o0 r W w1) (g : Gr w1 w2) : KC b vd b0 o0 r W w2 := ⟨g.cell h.1, g.cell h.2.1, h.2.2.trans g⟩
theorem hki_eq {L X : List F} {R R' : List (List UInt8)} {s : Nat} (h : KI L X R s) (e : R' = R) : KI L X R' s := by subst e; exact h
def KRel (n k : Nat) (rs : List ByteArray) (w1 : World) (v8 i : Value) (wr : World) : Prop :=
  ∃ (j : Nat) (A : Option Addr) (m c : Nat) (L X : List F), i = .int .i64 (j : Int) ∧ j ≤ n ∧ KI L X (datas (rs.take j)) (if j ≤ k then 0 else k) ∧ m = L.length ∧ KBox w1.heap.size (.slice A m c) L v8 (rs.take j) w1 wr

set_option maxRecDepth 100000 in
set_option maxHeartbeats 16000000 in
theorem wkeeps_walk (v0 : Value) (rs : List ByteArray) (sy : Nat) (vk : Value) (K : List Int) (w : World) (hv : SV w v0 rs) (hl : (rs.length + 2) * 16 ≤ 140737488355328) (hrs : ∀ s ∈ rs, s.size ≤ 281474976710656) (hsy : sy < 18446744073709551616) (hk : IV w vk K) (hH : Halves w) :
    Calls Tryd.prog 4 #[v0, .int .u64 (sy : Int), vk] w fun e w' => e = .returned (.bool true) ∧ Gr w w' := by
  have HA := Lib.hid (fun w1 (g : Gr w w1) => wawake_any w1 (hH.gr g))
  have HH := Lib.hid hH
  have HK := Lib.hid hk
  have HRS := Lib.hid hrs
  obtain ⟨A0, c0, rfl, l1, ⟨l2, _⟩, l3⟩ := hv
  have hc63 : c0 ≤ 9223372036854775807 := l2
  have HR := Lib.hid l3
  obtain ⟨n, hn⟩ : ∃ n, n = rs.length := ⟨_, rfl⟩
  have HN := Lib.hid hn
  rw [← hn] at l1 hl ⊢
  obtain ⟨k, hkd⟩ : ∃ k, k = sy % (n + 1) := ⟨_, rfl⟩
  have hkn : k ≤ n := by rw [hkd]; exact Nat.le_of_lt_succ (Nat.mod_lt sy (Nat.succ_pos n))
  have hk2 : (sy : Int) % ((n : Int) + 1) = (k : Int) := by rw [hkd]; rfl
  clear hH hk hrs l2 l3 hn hkd
  go_enter Tryd.func4, Tryd.ntmps4
  go_wp2_with fail
  refine (HA.out _ (Gr.refl _)).mono ?_
  rintro e w1 ⟨rfl, g1⟩
  have HG1 := Lib.hid g1
  have HST : Hid (KRel n k rs w1 (.slice none 0 0) (.int .i64 0) (w1.alloc (.cells #[.slice none 0 0] 24))) := Lib.hid
    ⟨0, none, 0, 0, [], [], rfl, Nat.zero_le _, by rw [if_pos (Nat.zero_le _)]; exact ki_start, rfl, ⟨by simp, by simp, FO.nil _ _, SO.nil _ _, gr_box w1 _, by simp, Nat.le_refl _⟩⟩
  clear g1
  go_wp2_with fail
  clear hk2 hsy
  go_loopw [8, 10] (fun v8 i wr => KRel n k rs w1 v8 i wr) (fun _ i _ => n + 1 - (intOf i).toNat)
  case atStart => exact HST.out
  case round =>
    obtain ⟨j, A, m, c, L, X, rfl, hj, ki0, hm0, kb0⟩ := hrel
    have HKI0 := Lib.hid ki0
    have HKB0 := Lib.hid kb0
    have HM0 := Lib.hid hm0
    clear ki0 kb0 hm0 HST
    have hjn : (j : Int) ≤ (n : Int) := by omega
    by_cases hlt : j < n
    · have hjn2 : ((j : Int) == (n : Int)) = false := by rw [beq_eq_false_iff_ne]; omega
      by_cases hjk : j = k
      · have ht : ((j : Int) == (k : Int)) = true := by rw [hjk]; simp
        have hki := HKI0.out
        obtain ⟨L', X', hrun, hki'⟩ := ki_sync (show prefixB wBB = true from prefix_w) hki
        have H2 := Lib.hid (fun w' (g : Gr wr w') => sync_yes (.slice A m c) L wBB w' (HKB0.out.disk.fv.gr g) prefix_w hki.fit (by have := hki.len; omega))
        obtain ⟨P, hP⟩ : ∃ P, P = syncPlan L wBB := ⟨_, rfl⟩
        have hfo : ∀ o ∈ P, FitO o := fun o ho => by
          rw [hP] at ho
          unfold syncPlan at ho
          split at ho
          · cases ho
          · rw [List.mem_singleton.1 ho]
            exact fitO_sync (by decide) _
        rw [← hP] at hrun H2
        have H3 := Lib.hid (fun vo w' (g : Gr wr w') (ho : OV w' vo P) => rdo_at (.slice A m c) vo L P w' (HKB0.out.disk.fv.gr g) ho hki.fit hfo (by have := hki.len; omega) L' P.length 0 hrun)
        have hrl : (datas (rs.take j)).length = k := by unfold datas; rw [List.length_map, List.length_take, ← HN.out]; omega
        rw [hrl] at hki'
        have HKI : Hid (KI L' X' (datas (rs.take j)) (if j + 1 ≤ k then 0 else k)) := Lib.hid (by rw [if_neg (by omega)]; exact hki')
        have hcb := HKB0.out.cell
        clear hki hrun hki' hP hfo hrl HKI0 hjk
        go_wp2_with fail
        refine (H2.out _ (Gr.refl _)).mono ?_
        rintro e w2 ⟨v2, rfl, hown2, g2⟩
        obtain ⟨A2, c2, hv2, -, -⟩ := hown2.form
        obtain ⟨m2, hm2⟩ : ∃ m, m = P.length := ⟨_, rfl⟩
        rw [← hm2] at hv2 H3
        subst hv2
        have HO2 := Lib.hid hown2.ov
        have HG2 := Lib.hid g2
        have hcb2 := g2.cell hcb
        have hb2 : w1.heap.size < w2.heap.size := Nat.lt_of_lt_of_le HKB0.out.lo g2.size
        clear hown2 g2 hm2 hcb
        go_wp2_with fail
        refine (H3.out _ _ HG2.out HO2.out).mono ?_
        rintro e w3 ⟨v3, rfl, hown3, g3⟩
        obtain ⟨A3, c3, hv3, -, -⟩ := hown3.form
        obtain ⟨m3, hm3⟩ : ∃ m, m = L'.length := ⟨_, rfl⟩
        rw [← hm3] at hv3
        subst hv3
        have HM3 := Lib.hid hm3
        obtain ⟨W3, hW3⟩ : ∃ W3, W3 = w3.alloc (.cells #[.slice A3 m3 c3] 24) := ⟨_, rfl⟩
        have hG3 : Gr wr W3 := by rw [hW3]; exact (HG2.out.trans g3).alloc _
        have hF3 : FO W3 w2.heap.size (.slice A3 m3 c3) L' := by rw [hW3]; exact hown3.gr (gr_box w3 _)
        have hz3 : W3.frozen? ⟨w1.heap.size, 0, none⟩ = false := hG3.frozen HKB0.out.lo HKB0.out.free
        have hcb3 : W3.cell? ⟨w1.heap.size, 0, none⟩ = some (.slice A m c) := hG3.cell HKB0.out.cell
        have hx3 : W3.cell? ⟨w3.heap.size, 0, none⟩ = some (.slice A3 m3 c3) := by rw [hW3]; simp
        have HKB := Lib.hid (HKB0.out.put hG3 hF3 hb2)
        obtain ⟨W, hW⟩ : ∃ W, W = W3.setCell ⟨w1.heap.size, 0, none⟩ (.slice A3 m3 c3) := ⟨_, rfl⟩
        rw [← hW] at HKB
        clear hown3 g3 hm3 hG3 hF3 hb2 hcb2
        go_upto_region 14 with (fail)
        rw [← hW3]
        clear hW3
        go_upto_region 15 with (fail)
        rw [← hW]
        clear hW hz3 hcb3 hx3 HKB0 H2 H3 HO2 HG2
        have hcb0 := HKB.out.cell
        go_wp2_with fail
        have hrj := HR.out j (by rw [← HN.out]; exact hlt)
        obtain ⟨b0, o0, rfl, hr0⟩ := hrj
        obtain ⟨r, hre⟩ : ∃ r, r = rs[j]'(by rw [← HN.out]; exact hlt) := ⟨_, rfl⟩
        rw [← hre] at hr0
        have hrz : r.size ≤ 281474976710656 := HRS.out r (by rw [hre]; exact List.getElem_mem _)
        have hb0 : b0 < w.heap.size := World.block_lt_of_cell? w ⟨b0, o0 + j, none⟩ hr0
        have HKC : Hid (KC w1.heap.size (.slice A3 m3 c3) b0 (o0 + j) r W W) := Lib.hid ⟨HKB.out.cell, (HG1.out.trans HKB.out.gr).cell hr0, Gr.refl _⟩
        have hcb := HKC.out.1
        have hcr := HKC.out.2.1
        have hts : datas (rs.take (j + 1)) = datas (rs.take j) ++ [r.data.toList] := by
          unfold datas
          rw [List.take_succ_eq_append_getElem (by rw [← HN.out]; exact hlt), ← hre, List.map_append]
          rfl
        have htk : rs.take (j + 1) = rs.take j ++ [r] := by rw [List.take_succ_eq_append_getElem (by rw [← HN.out]; exact hlt), ← hre]
        have hjl : (rs.take j).length = j := by rw [List.length_take, ← HN.out]; omega
        have HTS := Lib.hid hts
        have HTK := Lib.hid htk
        have HJL := Lib.hid hjl
        have hfv0 : FV W (.slice A3 m3 c3) L' := HKB.out.disk.fv
        have HFV := Lib.hid hfv0
        clear hr0 hre hts htk hjl hfv0
        by_cases hlong : 65536 < r.size
        · have H3 := Lib.hid (fun w' => append_long (.slice A3 m3 c3) wBB r w' prefix_w hlong ⟨_, _, _, rfl⟩)
          have hgt : (r.size : Int) > 65536 := by omega
          have HGW := Lib.hid (HG1.out.trans HKB.out.gr)
          go_region_held3 (fun w' => KC w1.heap.size (.slice A3 m3 c3) b0 (o0 + j) r W w')
            (first
              | (with_reducible exact HKC.out)
              | (with_reducible exact KC.gr HKC.out (Gr.refl _).drew)
              | (with_reducible assumption))
            (first
              | (go_at_call 17; (refine (H3.out _).mono ?_); rintro e w4 ⟨v4, rfl, hown4, hb⟩; obtain ⟨A4, c4, hv4, -, -⟩ := hown4.form; have hv4 : v4 = .slice A4 0 c4 := hv4; subst hv4; have hS4 := KC.gr (KC.gr HKC.out (Gr.refl _).drew) hb))
          have hcr4 := hS4.2.1
          have HG4 := Lib.hid (HGW.out.trans hS4.2.2)
          clear hS4 hown4
          go_wp2_with fail
          go_ret
          exact ⟨rfl, HG4.out⟩
        have hgrow := ki_append (record := r) (show prefixB wBB = true from prefix_w) HKI.out (by omega)
        have hpo := plan_ops L' wBB r (by decide) (by omega)
        have hki := HKI.out
        have H3 := Lib.hid (fun w' (g : Gr W w') => append_yes (.slice A3 m3 c3) L' wBB r w' (HFV.out.gr g) prefix_w (by omega) hki.fit (by have := hki.len; omega) (HH.out.gr ((HG1.out.trans HKB.out.gr).trans g)))
        obtain ⟨P2, hP2⟩ : ∃ P, P = (appendPlan L' wBB r).1 := ⟨_, rfl⟩
        obtain ⟨hk0, hgrow⟩ := hgrow
        rw [hk0] at H3
        rw [← hP2] at H3 hgrow hpo
        have HPO := Lib.hid hpo
        have H4 := Lib.hid (fun vo w' (g : Gr W w') (ho : OV w' vo P2) => rdo_any (.slice A3 m3 c3) vo L' P2 w' (HFV.out.gr g) ho hki.fit (fun o ho => (HPO.out o ho).1) (by have := hki.len; omega))
        clear hk0 hP2 hpo hki
        go_region_held3 (fun w' => KC w1.heap.size (.slice A3 m3 c3) b0 (o0 + j) r W w')
          (first
            | (with_reducible exact HKC.out)
            | (with_reducible exact KC.gr HKC.out (Gr.refl _).drew)
            | (with_reducible assumption))
          (first
            | (go_at_call 17; (refine (H3.out _ ?_).mono ?_); (exact (KC.gr HKC.out (Gr.refl _).drew).2.2); rintro e w4 ⟨v4, rfl, hown4, hb⟩; obtain ⟨A4, c4, hv4, -, -⟩ := hown4.form; obtain ⟨m4, hm4⟩ : ∃ m3, m3 = P2.length := ⟨_, rfl⟩; rw [← hm4] at hv4; subst hv4; have HM4 := Lib.hid hm4; clear hm4; have hS4 := KC.gr (KC.gr HKC.out (Gr.refl _).drew) hb))
        have HKC4 := Lib.hid hS4
        have hcb4 := HKC4.out.1
        have HO4 := Lib.hid hown4.ov
        clear hS4 hown4 hcb hcr
        rcases hgrow with h4 | ⟨L9, X9, hrun, hki'⟩
        · have H5 : Hid (∀ vo w', Gr W w' → OV w' vo P2 → Calls Tryd.prog 16 #[.agg #[.slice A3 m3 c3], vo] w' fun e w'' => ∃ A3 n c3 k, e = .returned (.tuple #[.agg #[.slice A3 n c3], .int .i64 k, .int .i64 4]) ∧ Gr w' w'') := Lib.hid (fun vo w' g ho => (H4.out vo w' g ho).mono fun e w'' ⟨v, he, ho, hg⟩ => by
            obtain ⟨A3, c3, hv, -, -⟩ := ho.form
            exact ⟨A3, _, c3, ((run L' P2).2.1 : Int), by rw [he, h4, hv]; rfl, hg⟩)
          clear h4 H4
          go_wp2_with fail
          refine (H5.out _ _ HKC4.out.2.2 HO4.out).mono ?_
          rintro e w6 ⟨A6, n6, c6, k6, rfl, g6⟩
          have HG6 := Lib.hid (((HG1.out.trans HKB.out.gr).trans HKC4.out.2.2).trans g6)
          clear g6
          go_wp2_with fail
          go_ret
          exact ⟨rfl, HG6.out.alloc _⟩
        have H5 : Hid (∀ vo w', Gr W w' → OV w' vo P2 → Calls Tryd.prog 16 #[.agg #[.slice A3 m3 c3], vo] w' fun e w'' => RetDoV L9 P2.length 0 w' e w'') := Lib.hid (fun vo w' g ho => by
          have := H4.out vo w' g ho
          unfold RetDo at this
          rw [hrun] at this
          exact this)
        have HKI2 := Lib.hid hki'
        clear H4 hrun hki'
        go_wp2_with fail
        refine (H5.out _ _ HKC4.out.2.2 HO4.out).mono ?_
        rintro e w6 ⟨v6, rfl, hown6, g6⟩
        obtain ⟨A6, c6, hv6, -, -⟩ := hown6.form
        obtain ⟨m6, hm6⟩ : ∃ m3, m3 = L9.length := ⟨_, rfl⟩
        rw [← hm6] at hv6
        subst hv6
        have HM6 := Lib.hid hm6
        have HG46 := Lib.hid g6
        have hb4 : w1.heap.size < w4.heap.size := Nat.lt_of_lt_of_le HKB.out.lo HKC4.out.2.2.size
        obtain ⟨W6, hW6⟩ : ∃ W6, W6 = w6.alloc (.cells #[.slice A6 m6 c6] 24) := ⟨_, rfl⟩
        have hG6 : Gr W W6 := by rw [hW6]; exact (HKC4.out.2.2.trans g6).alloc _
        have hF6 : FO W6 w4.heap.size (.slice A6 m6 c6) L9 := by rw [hW6]; exact hown6.gr (gr_box w6 _)
        have hz6 : W6.frozen? ⟨w1.heap.size, 0, none⟩ = false := hG6.frozen HKB.out.lo HKB.out.free
        have hcb6 : W6.cell? ⟨w1.heap.size, 0, none⟩ = some (.slice A3 m3 c3) := hG6.cell HKB.out.cell
        have hx6 : W6.cell? ⟨w6.heap.size, 0, none⟩ = some (.slice A6 m6 c6) := by rw [hW6]; simp
        have HKB6 := Lib.hid (HKB.out.put hG6 hF6 hb4)
        obtain ⟨W7, hW7⟩ : ∃ W7, W7 = W6.setCell ⟨w1.heap.size, 0, none⟩ (.slice A6 m6 c6) := ⟨_, rfl⟩
        have hr7 : W7.cell? ⟨b0, o0 + j, none⟩ = some (.string r) := by
          rw [hW7]
          exact setCell_there (hG6.cell HKC.out.2.1) (by have := HG1.out.size; omega)
        rw [← hW7] at HKB6
        have HR7 := Lib.hid hr7
        have HKI3 := Lib.hid (hki_eq HKI2.out HTS.out)
        clear hown6 g6 hm6 hG6 hF6 hr7 HKI2
        go_upto_region 22 with (fail)
        rw [← hW6]
        clear hW6
        go_upto_region 23 with (fail)
        rw [← hW7]
        clear hW7 hz6 hcb6 hx6
        have hr7 := HR7.out
        have hl8 : (rs.take j).length = j := HJL.out
        have HSV := Lib.hid (sv_one W7 r)
        have HKB7 := Lib.hid (HKB6.out.grow (gr_box W7 (.cells #[.string r] 9)))
        go_wp2_with (at_builtin; refine wpList_push_strs_b (w1.heap.size + 1) rfl (.tmp 104) (.tmp 109) rfl _ _ _ _ rfl HKB7.out.had rfl HSV.out (by rw [List.length_singleton, HJL.out]; omega) HKB7.out.lo ?_; intro A9 c9 w9 hown9 g9)
        rw [List.length_singleton, HJL.out] at hown9
        have HKB9 := Lib.hid (HKB7.out.push hown9 g9)
        rw [← HTK.out] at HKB9
        clear hown9 g9 hr7 hl8
        go_roundw
        case rel => exact ⟨j + 1, A6, m6, c6, L9, X9, by go_num, by omega, HKI3.out, HM6.out, HKB9.out⟩
        case measure => simp [intOf]; omega
      · have ht : ((j : Int) == (k : Int)) = false := by rw [beq_eq_false_iff_ne]; omega
        have HKI : Hid (KI L X (datas (rs.take j)) (if j + 1 ≤ k then 0 else k)) := Lib.hid (by
          have := HKI0.out
          by_cases h : j ≤ k
          · rw [if_pos h] at this
            rw [if_pos (by omega)]
            exact this
          · rw [if_neg h] at this
            rw [if_neg (by omega)]
            exact this)
        have HKB := HKB0
        obtain ⟨W, hW⟩ : ∃ W, W = wr := ⟨_, rfl⟩
        subst hW
        clear HKI0 HKB0
        have hcb0 := HKB.out.cell
        go_wp2_with fail
        have hrj := HR.out j (by rw [← HN.out]; exact hlt)
        obtain ⟨b0, o0, rfl, hr0⟩ := hrj
        obtain ⟨r, hre⟩ : ∃ r, r = rs[j]'(by rw [← HN.out]; exact hlt) := ⟨_, rfl⟩
        rw [← hre] at hr0
        have hrz : r.size ≤ 281474976710656 := HRS.out r (by rw [hre]; exact List.getElem_mem _)
        have hb0 : b0 < w.heap.size := World.block_lt_of_cell? w ⟨b0, o0 + j, none⟩ hr0
        have HKC : Hid (KC w1.heap.size (.slice A m c) b0 (o0 + j) r W W) := Lib.hid ⟨HKB.out.cell, (HG1.out.trans HKB.out.gr).cell hr0, Gr.refl _⟩
        have hcb := HKC.out.1
        have hcr := HKC.out.2.1
        have hts : datas (rs.take (j + 1)) = datas (rs.take j) ++ [r.data.toList] := by
          unfold datas
          rw [List.take_succ_eq_append_getElem (by rw [← HN.out]; exact hlt), ← hre, List.map_append]
          rfl
        have htk : rs.take (j + 1) = rs.take j ++ [r] := by rw [List.take_succ_eq_append_getElem (by rw [← HN.out]; exact hlt), ← hre]
        have hjl : (rs.take j).length = j := by rw [List.length_take, ← HN.out]; omega
        have HTS := Lib.hid hts
        have HTK := Lib.hid htk
        have HJL := Lib.hid hjl
        have hfv0 : FV W (.slice A m c) L := HKB.out.disk.fv
        have HFV := Lib.hid hfv0
        clear hr0 hre hts htk hjl hfv0
        by_cases hlong : 65536 < r.size
        · have H3 := Lib.hid (fun w' => append_long (.slice A m c) wBB r w' prefix_w hlong ⟨_, _, _, rfl⟩)
          have hgt : (r.size : Int) > 65536 := by omega
          have HGW := Lib.hid (HG1.out.trans HKB.out.gr)
          go_region_held3 (fun w' => KC w1.heap.size (.slice A m c) b0 (o0 + j) r W w')
            (first
              | (with_reducible exact HKC.out)
              | (with_reducible exact KC.gr HKC.out (Gr.refl _).drew)
              | (with_reducible assumption))
            (first
              | (go_at_call 17; (refine (H3.out _).mono ?_); rintro e w4 ⟨v4, rfl, hown4, hb⟩; obtain ⟨A4, c4, hv4, -, -⟩ := hown4.form; have hv4 : v4 = .slice A4 0 c4 := hv4; subst hv4; have hS4 := KC.gr (KC.gr HKC.out (Gr.refl _).drew) hb))
          have hcr4 := hS4.2.1
          have HG4 := Lib.hid (HGW.out.trans hS4.2.2)
          clear hS4 hown4
          go_wp2_with fail
          go_ret
          exact ⟨rfl, HG4.out⟩
        have hgrow := ki_append (record := r) (show prefixB wBB = true from prefix_w) HKI.out (by omega)
        have hpo := plan_ops L wBB r (by decide) (by omega)
        have hki := HKI.out
        have H3 := Lib.hid (fun w' (g : Gr W w') => append_yes (.slice A m c) L wBB r w' (HFV.out.gr g) prefix_w (by omega) hki.fit (by have := hki.len; omega) (HH.out.gr ((HG1.out.trans HKB.out.gr).trans g)))
        obtain ⟨P2, hP2⟩ : ∃ P, P = (appendPlan L wBB r).1 := ⟨_, rfl⟩
        obtain ⟨hk0, hgrow⟩ := hgrow
        rw [hk0] at H3
        rw [← hP2] at H3 hgrow hpo
        have HPO := Lib.hid hpo
        have H4 := Lib.hid (fun vo w' (g : Gr W w') (ho : OV w' vo P2) => rdo_any (.slice A m c) vo L P2 w' (HFV.out.gr g) ho hki.fit (fun o ho => (HPO.out o ho).1) (by have := hki.len; omega))
        clear hk0 hP2 hpo hki
        go_region_held3 (fun w' => KC w1.heap.size (.slice A m c) b0 (o0 + j) r W w')
          (first
            | (with_reducible exact HKC.out)
            | (with_reducible exact KC.gr HKC.out (Gr.refl _).drew)
            | (with_reducible assumption))
          (first
            | (go_at_call 17; (refine (H3.out _ ?_).mono ?_); (exact (KC.gr HKC.out (Gr.refl _).drew).2.2); rintro e w4 ⟨v4, rfl, hown4, hb⟩; obtain ⟨A4, c4, hv4, -, -⟩ := hown4.form; obtain ⟨m4, hm4⟩ : ∃ m, m = P2.length := ⟨_, rfl⟩; rw [← hm4] at hv4; subst hv4; have HM4 := Lib.hid hm4; clear hm4; have hS4 := KC.gr (KC.gr HKC.out (Gr.refl _).drew) hb))
        have HKC4 := Lib.hid hS4
        have hcb4 := HKC4.out.1
        have HO4 := Lib.hid hown4.ov
        clear hS4 hown4 hcb hcr
        rcases hgrow with h4 | ⟨L', X', hrun, hki'⟩
        · have H5 : Hid (∀ vo w', Gr W w' → OV w' vo P2 → Calls Tryd.prog 16 #[.agg #[.slice A m c], vo] w' fun e w'' => ∃ A n c k, e = .returned (.tuple #[.agg #[.slice A n c], .int .i64 k, .int .i64 4]) ∧ Gr w' w'') := Lib.hid (fun vo w' g ho => (H4.out vo w' g ho).mono fun e w'' ⟨v, he, ho, hg⟩ => by
            obtain ⟨A, c, hv, -, -⟩ := ho.form
            exact ⟨A, _, c, ((run L P2).2.1 : Int), by rw [he, h4, hv]; rfl, hg⟩)
          clear h4 H4
          go_wp2_with fail
          refine (H5.out _ _ HKC4.out.2.2 HO4.out).mono ?_
          rintro e w6 ⟨A6, n6, c6, k6, rfl, g6⟩
          have HG6 := Lib.hid (((HG1.out.trans HKB.out.gr).trans HKC4.out.2.2).trans g6)
          clear g6
          go_wp2_with fail
          go_ret
          exact ⟨rfl, HG6.out.alloc _⟩
        have H5 : Hid (∀ vo w', Gr W w' → OV w' vo P2 → Calls Tryd.prog 16 #[.agg #[.slice A m c], vo] w' fun e w'' => RetDoV L' P2.length 0 w' e w'') := Lib.hid (fun vo w' g ho => by
          have := H4.out vo w' g ho
          unfold RetDo at this
          rw [hrun] at this
          exact this)
        have HKI2 := Lib.hid hki'
        clear H4 hrun hki'
        go_wp2_with fail
        refine (H5.out _ _ HKC4.out.2.2 HO4.out).mono ?_
        rintro e w6 ⟨v6, rfl, hown6, g6⟩
        obtain ⟨A6, c6, hv6, -, -⟩ := hown6.form
        obtain ⟨m6, hm6⟩ : ∃ m, m = L'.length := ⟨_, rfl⟩
        rw [← hm6] at hv6
        subst hv6
        have HM6 := Lib.hid hm6
        have HG46 := Lib.hid g6
        have hb4 : w1.heap.size < w4.heap.size := Nat.lt_of_lt_of_le HKB.out.lo HKC4.out.2.2.size
        obtain ⟨W6, hW6⟩ : ∃ W6, W6 = w6.alloc (.cells #[.slice A6 m6 c6] 24) := ⟨_, rfl⟩
        have hG6 : Gr W W6 := by rw [hW6]; exact (HKC4.out.2.2.trans g6).alloc _
        have hF6 : FO W6 w4.heap.size (.slice A6 m6 c6) L' := by rw [hW6]; exact hown6.gr (gr_box w6 _)
        have hz6 : W6.frozen? ⟨w1.heap.size, 0, none⟩ = false := hG6.frozen HKB.out.lo HKB.out.free
        have hcb6 : W6.cell? ⟨w1.heap.size, 0, none⟩ = some (.slice A m c) := hG6.cell HKB.out.cell
        have hx6 : W6.cell? ⟨w6.heap.size, 0, none⟩ = some (.slice A6 m6 c6) := by rw [hW6]; simp
        have HKB6 := Lib.hid (HKB.out.put hG6 hF6 hb4)
        obtain ⟨W7, hW7⟩ : ∃ W7, W7 = W6.setCell ⟨w1.heap.size, 0, none⟩ (.slice A6 m6 c6) := ⟨_, rfl⟩
        have hr7 : W7.cell? ⟨b0, o0 + j, none⟩ = some (.string r) := by
          rw [hW7]
          exact setCell_there (hG6.cell HKC.out.2.1) (by have := HG1.out.size; omega)
        rw [← hW7] at HKB6
        have HR7 := Lib.hid hr7
        have HKI3 := Lib.hid (hki_eq HKI2.out HTS.out)
        clear hown6 g6 hm6 hG6 hF6 hr7 HKI2
        go_upto_region 22 with (fail)
        rw [← hW6]
        clear hW6
        go_upto_region 23 with (fail)
        rw [← hW7]
        clear hW7 hz6 hcb6 hx6
        have hr7 := HR7.out
        have hl8 : (rs.take j).length = j := HJL.out
        have HSV := Lib.hid (sv_one W7 r)
        have HKB7 := Lib.hid (HKB6.out.grow (gr_box W7 (.cells #[.string r] 9)))
        go_wp2_with (at_builtin; refine wpList_push_strs_b (w1.heap.size + 1) rfl (.tmp 104) (.tmp 109) rfl _ _ _ _ rfl HKB7.out.had rfl HSV.out (by rw [List.length_singleton, HJL.out]; omega) HKB7.out.lo ?_; intro A9 c9 w9 hown9 g9)
        rw [List.length_singleton, HJL.out] at hown9
        have HKB9 := Lib.hid (HKB7.out.push hown9 g9)
        rw [← HTK.out] at HKB9
        clear hown9 g9 hr7 hl8
        go_roundw
        case rel => exact ⟨j + 1, A6, m6, c6, L', X', by go_num, by omega, HKI3.out, HM6.out, HKB9.out⟩
        case measure => simp [intOf]; omega
    · have hjn2 : ((j : Int) == (n : Int)) = true := by rw [show j = n by omega]; simp
      by_cases hjk : j = k
      · have ht : ((j : Int) == (k : Int)) = true := by rw [hjk]; simp
        have hki := HKI0.out
        obtain ⟨L', X', hrun, hki'⟩ := ki_sync (show prefixB wBB = true from prefix_w) hki
        have H2 := Lib.hid (fun w' (g : Gr wr w') => sync_yes (.slice A m c) L wBB w' (HKB0.out.disk.fv.gr g) prefix_w hki.fit (by have := hki.len; omega))
        obtain ⟨P, hP⟩ : ∃ P, P = syncPlan L wBB := ⟨_, rfl⟩
        have hfo : ∀ o ∈ P, FitO o := fun o ho => by
          rw [hP] at ho
          unfold syncPlan at ho
          split at ho
          · cases ho
          · rw [List.mem_singleton.1 ho]
            exact fitO_sync (by decide) _
        rw [← hP] at hrun H2
        have H3 := Lib.hid (fun vo w' (g : Gr wr w') (ho : OV w' vo P) => rdo_at (.slice A m c) vo L P w' (HKB0.out.disk.fv.gr g) ho hki.fit hfo (by have := hki.len; omega) L' P.length 0 hrun)
        have hrl : (datas (rs.take j)).length = k := by unfold datas; rw [List.length_map, List.length_take, ← HN.out]; omega
        rw [hrl] at hki'
        have HKI : Hid (KI L' X' (datas (rs.take j)) (if j + 1 ≤ k then 0 else k)) := Lib.hid (by rw [if_neg (by omega)]; exact hki')
        have hcb := HKB0.out.cell
        clear hki hrun hki' hP hfo hrl HKI0 hjk
        go_wp2_with fail
        refine (H2.out _ (Gr.refl _)).mono ?_
        rintro e w2 ⟨v2, rfl, hown2, g2⟩
        obtain ⟨A2, c2, hv2, -, -⟩ := hown2.form
        obtain ⟨m2, hm2⟩ : ∃ m, m = P.length := ⟨_, rfl⟩
        rw [← hm2] at hv2 H3
        subst hv2
        have HO2 := Lib.hid hown2.ov
        have HG2 := Lib.hid g2
        have hcb2 := g2.cell hcb
        have hb2 : w1.heap.size < w2.heap.size := Nat.lt_of_lt_of_le HKB0.out.lo g2.size
        clear hown2 g2 hm2 hcb
        go_wp2_with fail
        refine (H3.out _ _ HG2.out HO2.out).mono ?_
        rintro e w3 ⟨v3, rfl, hown3, g3⟩
        obtain ⟨A3, c3, hv3, -, -⟩ := hown3.form
        obtain ⟨m3, hm3⟩ : ∃ m, m = L'.length := ⟨_, rfl⟩
        rw [← hm3] at hv3
        subst hv3
        have HM3 := Lib.hid hm3
        obtain ⟨W3, hW3⟩ : ∃ W3, W3 = w3.alloc (.cells #[.slice A3 m3 c3] 24) := ⟨_, rfl⟩
        have hG3 : Gr wr W3 := by rw [hW3]; exact (HG2.out.trans g3).alloc _
        have hF3 : FO W3 w2.heap.size (.slice A3 m3 c3) L' := by rw [hW3]; exact hown3.gr (gr_box w3 _)
        have hz3 : W3.frozen? ⟨w1.heap.size, 0, none⟩ = false := hG3.frozen HKB0.out.lo HKB0.out.free
        have hcb3 : W3.cell? ⟨w1.heap.size, 0, none⟩ = some (.slice A m c) := hG3.cell HKB0.out.cell
        have hx3 : W3.cell? ⟨w3.heap.size, 0, none⟩ = some (.slice A3 m3 c3) := by rw [hW3]; simp
        have HKB := Lib.hid (HKB0.out.put hG3 hF3 hb2)
        obtain ⟨W, hW⟩ : ∃ W, W = W3.setCell ⟨w1.heap.size, 0, none⟩ (.slice A3 m3 c3) := ⟨_, rfl⟩
        rw [← hW] at HKB
        clear hown3 g3 hm3 hG3 hF3 hb2 hcb2
        go_upto_region 14 with (fail)
        rw [← hW3]
        clear hW3
        go_upto_region 15 with (fail)
        rw [← hW]
        clear hW hz3 hcb3 hx3 HKB0 H2 H3 HO2 HG2
        have hcb0 := HKB.out.cell
        go_wp2_with fail
        have hej : j = n := by omega
        have hki := HKI.out
        obtain ⟨hpre, hsafe, hdist, hsz, hfitc⟩ := ki_crash hki K
        have hclen : (crash L' K).length * 48 ≤ 140737488355328 := by rw [crash_len]; have := hki.len; omega
        have hsm : ∀ f ∈ segL (crash L' K) wBB, f.size ≤ 1048576 := fun f hf => hsz f (segL_mem hf)
        obtain ⟨Lm, Xm, hrun, hmd⟩ := mend (L := crash L' K) (show prefixB wBB = true from prefix_w) hdist
        have hfitm : Fit Lm := fine_run hrun hfitc
        have hsmm : ∀ f ∈ segL Lm wBB, f.size ≤ 1048576 := fun f hf => hmd.size _ hsz f (segL_mem hf)
        have hmlen : Lm.length * 48 ≤ 140737488355328 := by have := hmd.len; rw [crash_len] at this; have := hki.len; omega
        have hop : openW Lm wBB = ((openW (crash L' K) wBB).1, []) := by rw [hmd.log.opens hmd.whole, hmd.recs]
        have hfo := fitO_open (L := crash L' K) (p := wBB) (by decide) hsm
        have HC := Lib.hid (fun w' (g : Gr W w') => rcrash_any (.slice A3 m3 c3) vk L' K w' (HKB.out.disk.fv.gr g) (HK.out.gr ((HG1.out.trans HKB.out.gr).trans g)) hki.fit (by have := hki.len; omega))
        have HO := Lib.hid (fun u w' (hu : FV w' u (crash L' K)) (g : Gr W w') => open_yes u (crash L' K) wBB w' hu prefix_w hfitc hsm hclen (HH.out.gr ((HG1.out.trans HKB.out.gr).trans g)))
        have HO2 := Lib.hid (fun u w' (hu : FV w' u Lm) (g : Gr W w') => open_yes u Lm wBB w' hu prefix_w hfitm hsmm hmlen (HH.out.gr ((HG1.out.trans HKB.out.gr).trans g)))
        rw [hop] at HO2
        obtain ⟨R, hR⟩ : ∃ R, R = (openW (crash L' K) wBB).1 := ⟨_, rfl⟩
        obtain ⟨P, hP⟩ : ∃ P, P = (openW (crash L' K) wBB).2 := ⟨_, rfl⟩
        rw [← hR] at HO HO2 hpre hsafe
        rw [← hP] at HO hrun hfo
        have HD := Lib.hid (fun u vo w' (hu : FV w' u (crash L' K)) (ho : OV w' vo P) => rdo_at u vo (crash L' K) P w' hu ho hfitc hfo hclen Lm P.length 0 hrun)
        have hjl : (rs.take j).length = j := by rw [List.length_take, ← HN.out]; omega
        have hpl := hpre.length_le
        have hdl : (datas (rs.take j)).length = j := by unfold datas; rw [List.length_map, hjl]
        rw [hdl] at hpl
        rw [if_neg (by omega)] at hsafe
        have hbeg : R.map bs = (rs.take j).take R.length := by
          have e := List.prefix_iff_eq_take.1 hpre
          calc R.map bs = ((datas (rs.take j)).take R.length).map bs := by rw [← e]
            _ = ((datas (rs.take j)).map bs).take R.length := List.map_take
            _ = _ := by rw [datas_bs]
        obtain ⟨nr, hnr⟩ : ∃ x, x = R.length := ⟨_, rfl⟩
        obtain ⟨np, hnp⟩ : ∃ x, x = P.length := ⟨_, rfl⟩
        rw [← hnr] at hpl hsafe hbeg
        rw [← hnp] at HD
        have HNR := Lib.hid hnr
        have HNP := Lib.hid hnp
        have HBEG := Lib.hid hbeg
        obtain ⟨A8, c8, hv8, hc8, hc8'⟩ := so_form HKB.out.had
        rw [hjl] at hv8 hc8
        subst hv8
        have hsl := slice_to_g (P := Tryd.prog) 27 1 Tryd.underlying27 (fun W => by kernel_rfl) j c8 nr (by omega) A8
        have HHAD := Lib.hid (SV.take HKB.out.had.sv (k := nr) (by rw [hjl]; omega))
        have hcb := HKB.out.cell
        have HGW := Lib.hid (HG1.out.trans HKB.out.gr)
        have g1' : (k : Int) ≤ (nr : Int) := by omega
        have g2' : (nr : Int) ≤ (j : Int) := by omega
        clear hki hpre hdist hsz hfitc hclen hsm hrun hmd hfitm hsmm hmlen hop hfo hR hP hjl hdl hbeg hnr hnp hej
        refine (HC.out _ (Gr.refl _)).mono ?_
        rintro e w2 ⟨v2, rfl, hown2, g2⟩
        have HF2 := Lib.hid hown2.fv
        have HG2 := Lib.hid g2
        have HCB2 := Lib.hid (g2.cell hcb)
        clear hown2 g2
        go_wp2_with fail
        refine (HO.out _ _ HF2.out HG2.out).mono ?_
        rintro e w3 ⟨v3, v4, rfl, hs3, ho4, g3⟩
        obtain ⟨A3, c3, hv3, -, -⟩ := so_form hs3
        obtain ⟨A4, c4, hv4, -, -⟩ := ho4.form
        rw [List.length_map, ← HNR.out] at hv3
        rw [← HNP.out] at hv4
        subst hv3 hv4
        have HS3 := Lib.hid hs3.sv
        have HO4 := Lib.hid ho4.ov
        have HG3 := Lib.hid (HG2.out.trans g3)
        have HCB3 := Lib.hid (g3.cell HCB2.out)
        have H5 := Lib.hid (lsame_any (.slice A3 nr c3) (.slice A8 nr c8) (R.map bs) w3 HS3.out (by rw [HBEG.out]; exact HHAD.out.gr HG3.out))
        clear hs3 ho4 g3 hcb
        go_wp2_with fail
        refine H5.out.mono ?_
        rintro e w4 ⟨rfl, g4⟩
        have HG4 := Lib.hid (HG3.out.trans g4)
        have HO44 := Lib.hid (HO4.out.gr g4)
        have HS34 := Lib.hid (HS3.out.gr g4)
        have hcb4 := g4.cell HCB3.out
        clear g4
        go_wp2_with fail
        refine (HC.out _ HG4.out).mono ?_
        rintro e w5 ⟨v5, rfl, hown5, g5⟩
        have HF5 := Lib.hid hown5.fv
        have HG5 := Lib.hid (HG4.out.trans g5)
        have HO45 := Lib.hid (HO44.out.gr g5)
        have HS35 := Lib.hid (HS34.out.gr g5)
        clear hown5 g5 hcb4
        go_wp2_with fail
        refine (HD.out _ _ _ HF5.out HO45.out).mono ?_
        rintro e w6 ⟨v6, rfl, hown6, g6⟩
        obtain ⟨A6, c6, hv6, -, -⟩ := hown6.form
        obtain ⟨m6, hm6⟩ : ∃ m3, m3 = Lm.length := ⟨_, rfl⟩
        rw [← hm6] at hv6
        subst hv6
        have HGB6 := Lib.hid (gr_box w6 (.cells #[.slice A6 m6 c6] 24))
        have HG6 := Lib.hid ((HG5.out.trans g6).trans HGB6.out)
        have HF6 := Lib.hid (hown6.fv.gr HGB6.out)
        have HS36 := Lib.hid ((HS35.out.gr g6).gr HGB6.out)
        clear hown6 g6 hm6
        go_wp2_with fail
        refine (HO2.out _ _ HF6.out HG6.out).mono ?_
        rintro e w7 ⟨v7, v8', rfl, hs7, ho8, g7⟩
        obtain ⟨A9, c9, hv9, -, -⟩ := ho8.form
        have hv9 : v8' = .slice A9 0 c9 := hv9
        subst hv9
        have HG7 := Lib.hid (HG6.out.trans g7)
        have H8 := Lib.hid (lsame_any v7 (.slice A3 nr c3) (R.map bs) w7 hs7.sv (HS36.out.gr g7))
        clear hs7 ho8 g7
        go_wp2_with fail
        refine H8.out.mono ?_
        rintro e w8 ⟨rfl, g8⟩
        have HG8 := Lib.hid (HGW.out.trans (HG7.out.trans g8))
        clear g8
        go_wp2_with fail
        go_ret
        exact ⟨rfl, HG8.out⟩
      · have ht : ((j : Int) == (k : Int)) = false := by rw [beq_eq_false_iff_ne]; omega
        have HKI : Hid (KI L X (datas (rs.take j)) (if j + 1 ≤ k then 0 else k)) := Lib.hid (by
          have := HKI0.out
          by_cases h : j ≤ k
          · rw [if_pos h] at this
            rw [if_pos (by omega)]
            exact this
          · rw [if_neg h] at this
            rw [if_neg (by omega)]
            exact this)
        have HKB := HKB0
        obtain ⟨W, hW⟩ : ∃ W, W = wr := ⟨_, rfl⟩
        subst hW
        clear HKI0 HKB0
        have hcb0 := HKB.out.cell
        go_wp2_with fail
        have hej : j = n := by omega
        have hki := HKI.out
        obtain ⟨hpre, hsafe, hdist, hsz, hfitc⟩ := ki_crash hki K
        have hclen : (crash L K).length * 48 ≤ 140737488355328 := by rw [crash_len]; have := hki.len; omega
        have hsm : ∀ f ∈ segL (crash L K) wBB, f.size ≤ 1048576 := fun f hf => hsz f (segL_mem hf)
        obtain ⟨Lm, Xm, hrun, hmd⟩ := mend (L := crash L K) (show prefixB wBB = true from prefix_w) hdist
        have hfitm : Fit Lm := fine_run hrun hfitc
        have hsmm : ∀ f ∈ segL Lm wBB, f.size ≤ 1048576 := fun f hf => hmd.size _ hsz f (segL_mem hf)
        have hmlen : Lm.length * 48 ≤ 140737488355328 := by have := hmd.len; rw [crash_len] at this; have := hki.len; omega
        have hop : openW Lm wBB = ((openW (crash L K) wBB).1, []) := by rw [hmd.log.opens hmd.whole, hmd.recs]
        have hfo := fitO_open (L := crash L K) (p := wBB) (by decide) hsm
        have HC := Lib.hid (fun w' (g : Gr W w') => rcrash_any (.slice A m c) vk L K w' (HKB.out.disk.fv.gr g) (HK.out.gr ((HG1.out.trans HKB.out.gr).trans g)) hki.fit (by have := hki.len; omega))
        have HO := Lib.hid (fun u w' (hu : FV w' u (crash L K)) (g : Gr W w') => open_yes u (crash L K) wBB w' hu prefix_w hfitc hsm hclen (HH.out.gr ((HG1.out.trans HKB.out.gr).trans g)))
        have HO2 := Lib.hid (fun u w' (hu : FV w' u Lm) (g : Gr W w') => open_yes u Lm wBB w' hu prefix_w hfitm hsmm hmlen (HH.out.gr ((HG1.out.trans HKB.out.gr).trans g)))
        rw [hop] at HO2
        obtain ⟨R, hR⟩ : ∃ R, R = (openW (crash L K) wBB).1 := ⟨_, rfl⟩
        obtain ⟨P, hP⟩ : ∃ P, P = (openW (crash L K) wBB).2 := ⟨_, rfl⟩
        rw [← hR] at HO HO2 hpre hsafe
        rw [← hP] at HO hrun hfo
        have HD := Lib.hid (fun u vo w' (hu : FV w' u (crash L K)) (ho : OV w' vo P) => rdo_at u vo (crash L K) P w' hu ho hfitc hfo hclen Lm P.length 0 hrun)
        have hjl : (rs.take j).length = j := by rw [List.length_take, ← HN.out]; omega
        have hpl := hpre.length_le
        have hdl : (datas (rs.take j)).length = j := by unfold datas; rw [List.length_map, hjl]
        rw [hdl] at hpl
        rw [if_neg (by omega)] at hsafe
        have hbeg : R.map bs = (rs.take j).take R.length := by
          have e := List.prefix_iff_eq_take.1 hpre
          calc R.map bs = ((datas (rs.take j)).take R.length).map bs := by rw [← e]
            _ = ((datas (rs.take j)).map bs).take R.length := List.map_take
            _ = _ := by rw [datas_bs]
        obtain ⟨nr, hnr⟩ : ∃ x, x = R.length := ⟨_, rfl⟩
        obtain ⟨np, hnp⟩ : ∃ x, x = P.length := ⟨_, rfl⟩
        rw [← hnr] at hpl hsafe hbeg
        rw [← hnp] at HD
        have HNR := Lib.hid hnr
        have HNP := Lib.hid hnp
        have HBEG := Lib.hid hbeg
        obtain ⟨A8, c8, hv8, hc8, hc8'⟩ := so_form HKB.out.had
        rw [hjl] at hv8 hc8
        subst hv8
        have hsl := slice_to_g (P := Tryd.prog) 27 1 Tryd.underlying27 (fun W => by kernel_rfl) j c8 nr (by omega) A8
        have HHAD := Lib.hid (SV.take HKB.out.had.sv (k := nr) (by rw [hjl]; omega))
        have hcb := HKB.out.cell
        have HGW := Lib.hid (HG1.out.trans HKB.out.gr)
        have g1' : (k : Int) ≤ (nr : Int) := by omega
        have g2' : (nr : Int) ≤ (j : Int) := by omega
        clear hki hpre hdist hsz hfitc hclen hsm hrun hmd hfitm hsmm hmlen hop hfo hR hP hjl hdl hbeg hnr hnp hej
        refine (HC.out _ (Gr.refl _)).mono ?_
        rintro e w2 ⟨v2, rfl, hown2, g2⟩
        have HF2 := Lib.hid hown2.fv
        have HG2 := Lib.hid g2
        have HCB2 := Lib.hid (g2.cell hcb)
        clear hown2 g2
        go_wp2_with fail
        refine (HO.out _ _ HF2.out HG2.out).mono ?_
        rintro e w3 ⟨v3, v4, rfl, hs3, ho4, g3⟩
        obtain ⟨A3, c3, hv3, -, -⟩ := so_form hs3
        obtain ⟨A4, c4, hv4, -, -⟩ := ho4.form
        rw [List.length_map, ← HNR.out] at hv3
        rw [← HNP.out] at hv4
        subst hv3 hv4
        have HS3 := Lib.hid hs3.sv
        have HO4 := Lib.hid ho4.ov
        have HG3 := Lib.hid (HG2.out.trans g3)
        have HCB3 := Lib.hid (g3.cell HCB2.out)
        have H5 := Lib.hid (lsame_any (.slice A3 nr c3) (.slice A8 nr c8) (R.map bs) w3 HS3.out (by rw [HBEG.out]; exact HHAD.out.gr HG3.out))
        clear hs3 ho4 g3 hcb
        go_wp2_with fail
        refine H5.out.mono ?_
        rintro e w4 ⟨rfl, g4⟩
        have HG4 := Lib.hid (HG3.out.trans g4)
        have HO44 := Lib.hid (HO4.out.gr g4)
        have HS34 := Lib.hid (HS3.out.gr g4)
        have hcb4 := g4.cell HCB3.out
        clear g4
        go_wp2_with fail
        refine (HC.out _ HG4.out).mono ?_
        rintro e w5 ⟨v5, rfl, hown5, g5⟩
        have HF5 := Lib.hid hown5.fv
        have HG5 := Lib.hid (HG4.out.trans g5)
        have HO45 := Lib.hid (HO44.out.gr g5)
        have HS35 := Lib.hid (HS34.out.gr g5)
        clear hown5 g5 hcb4
        go_wp2_with fail
        refine (HD.out _ _ _ HF5.out HO45.out).mono ?_
        rintro e w6 ⟨v6, rfl, hown6, g6⟩
        obtain ⟨A6, c6, hv6, -, -⟩ := hown6.form
        obtain ⟨m6, hm6⟩ : ∃ m, m = Lm.length := ⟨_, rfl⟩
        rw [← hm6] at hv6
        subst hv6
        have HGB6 := Lib.hid (gr_box w6 (.cells #[.slice A6 m6 c6] 24))
        have HG6 := Lib.hid ((HG5.out.trans g6).trans HGB6.out)
        have HF6 := Lib.hid (hown6.fv.gr HGB6.out)
        have HS36 := Lib.hid ((HS35.out.gr g6).gr HGB6.out)
        clear hown6 g6 hm6
        go_wp2_with fail
        refine (HO2.out _ _ HF6.out HG6.out).mono ?_
        rintro e w7 ⟨v7, v8', rfl, hs7, ho8, g7⟩
        obtain ⟨A9, c9, hv9, -, -⟩ := ho8.form
        have hv9 : v8' = .slice A9 0 c9 := hv9
        subst hv9
        have HG7 := Lib.hid (HG6.out.trans g7)
        have H8 := Lib.hid (lsame_any v7 (.slice A3 nr c3) (R.map bs) w7 hs7.sv (HS36.out.gr g7))
        clear hs7 ho8 g7
        go_wp2_with fail
        refine H8.out.mono ?_
        rintro e w8 ⟨rfl, g8⟩
        have HG8 := Lib.hid (HGW.out.trans (HG7.out.trans g8))
        clear g8
        go_wp2_with fail
        go_ret
        exact ⟨rfl, HG8.out⟩
end Go.Proofs.YtmkcgnljankmdaaDoor
