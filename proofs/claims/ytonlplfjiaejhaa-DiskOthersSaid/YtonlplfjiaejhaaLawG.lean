/- The law DiskSafe: what a crash leaves. -/
import Derived.Test.YtonlplfjiaejhaaLawF
namespace Go.Proofs.Ytonlplfjiaejhaa
open Go.RowKit

theorem extract_list (x : ByteArray) (k : Nat) : (x.extract 0 k).data.toList = x.data.toList.take k := by
  rw [ByteArray.data_extract, Array.toList_extract]
  simp
theorem size_list (x : ByteArray) : x.data.toList.length = x.size := by rw [Array.length_toList]; rfl
theorem of_lists {x y : ByteArray} (h : x.data.toList = y.data.toList) : x = y := ByteArray.ext (Array.toList_inj.1 h)
theorem append_list (x y : ByteArray) : (x ++ y).data.toList = x.data.toList ++ y.data.toList := by rw [ByteArray.data_append, Array.toList_append]
theorem extract_pre (x y : ByteArray) : (x ++ y).extract 0 x.size = x := by
  apply of_lists
  rw [extract_list, append_list, ← size_list x, List.take_left' rfl]
theorem extract_mid (x y : ByteArray) (j : Nat) : (x ++ y).extract 0 (x.size + j) = x ++ y.extract 0 j := by
  apply of_lists
  rw [extract_list, append_list, append_list, extract_list, ← size_list x, List.take_append, List.take_of_length_le (Nat.le_add_right _ _), Nat.add_sub_cancel_left]
theorem begins_pre (x y : ByteArray) : beginsS (x ++ y) x = true := by
  unfold beginsS
  rw [extract_pre, eqS_self, Bool.and_true]
  exact decide_eq_true (by rw [append_size']; omega)
theorem begins_mid (x y : ByteArray) (j : Nat) (hj : j ≤ y.size) : beginsS (x ++ y) (x ++ y.extract 0 j) = true := by
  unfold beginsS
  have hs : (x ++ y.extract 0 j).size = x.size + j := by rw [append_size', ByteArray.size_extract]; omega
  rw [hs, extract_mid x y j, eqS_self, Bool.and_true]
  exact decide_eq_true (by rw [append_size']; omega)
abbrev CS (W : World) (b1 b2 a1 p1 a2 p2 : Nat) (v1 v2 : Value) (f f2 : F) (w' : World) : Prop :=
  w'.cell? ⟨b1, 0, none⟩ = some v1 ∧ w'.cell? ⟨b2, 0, none⟩ = some v2 ∧
  w'.cell? ⟨a1, p1, none⟩ = some (.string f.name) ∧ w'.cell? ⟨a1, p1 + 1, none⟩ = some (.string f.kept) ∧ w'.cell? ⟨a1, p1 + 2, none⟩ = some (.string f.loose) ∧
  w'.cell? ⟨a2, p2, none⟩ = some (.string f2.name) ∧ w'.cell? ⟨a2, p2 + 1, none⟩ = some (.string f2.kept) ∧ w'.cell? ⟨a2, p2 + 2, none⟩ = some (.string f2.loose) ∧
  (Gr W w' ∧ (b1 < W.heap.size ∧ b2 < W.heap.size ∧ a1 < W.heap.size ∧ a2 < W.heap.size))
theorem CS.gr {W : World} {b1 b2 a1 p1 a2 p2 : Nat} {v1 v2 : Value} {f f2 : F} {w1 w2 : World} (h : CS W b1 b2 a1 p1 a2 p2 v1 v2 f f2 w1) (q : Gr w1 w2) : CS W b1 b2 a1 p1 a2 p2 v1 v2 f f2 w2 := by
  obtain ⟨h1, h2, h3, h4, h5, h6, h7, h8, h9, h0⟩ := h
  exact ⟨q.cell h1, q.cell h2, q.cell h3, q.cell h4, q.cell h5, q.cell h6, q.cell h7, q.cell h8, h9.trans q, h0⟩
theorem CS.alloc {W : World} {b1 b2 a1 p1 a2 p2 : Nat} {v1 v2 : Value} {f f2 : F} {w1 : World} {o : Obj} (h : CS W b1 b2 a1 p1 a2 p2 v1 v2 f f2 w1) : CS W b1 b2 a1 p1 a2 p2 v1 v2 f f2 (w1.alloc o) := h.gr (gr_box w1 o)
theorem CS.allocDrew {W : World} {b1 b2 a1 p1 a2 p2 : Nat} {v1 v2 : Value} {f f2 : F} {w1 : World} {o : Obj} (h : CS W b1 b2 a1 p1 a2 p2 v1 v2 f f2 w1.drew) : CS W b1 b2 a1 p1 a2 p2 v1 v2 f f2 (w1.alloc o).drew := CS.alloc (o := o) h
theorem CS.set {W : World} {b1 b2 a1 p1 a2 p2 : Nat} {v1 v2 u : Value} {f f2 : F} {w1 : World} {x i : Nat} (h : CS W b1 b2 a1 p1 a2 p2 v1 v2 f f2 w1) (hx : W.heap.size ≤ x) : CS W b1 b2 a1 p1 a2 p2 v1 v2 f f2 (w1.setCell ⟨x, i, none⟩ u) := by
  obtain ⟨h1, h2, h3, h4, h5, h6, h7, h8, h9, g1, g2, g3, g4⟩ := h
  exact ⟨setCell_there h1 (by omega), setCell_there h2 (by omega), setCell_there h3 (by omega), setCell_there h4 (by omega), setCell_there h5 (by omega), setCell_there h6 (by omega), setCell_there h7 (by omega), setCell_there h8 (by omega), Below.setCell h9 hx _, g1, g2, g3, g4⟩

set_option maxRecDepth 100000 in
set_option maxHeartbeats 4000000 in
theorem diskSafe_any (v vk : Value) (L : List F) (K : List Int) (w : World) (hv : FV w v L) (hk : IV w vk K) (hf : Fit L) (hlen : L.length * 48 ≤ 140737488355328) :
    Calls Try.prog 5 #[.agg #[v], vk] w fun e w' => e = .returned (.bool true) ∧ Gr w w' := by
  obtain ⟨A, c, hva, hlc, ⟨hc63, _⟩, hfs⟩ := id hv
  have hc63 : c ≤ 9223372036854775807 := hc63
  obtain ⟨Ak, ck, hvk, _⟩ := id hk
  have HV := Lib.hid hv
  have HK := Lib.hid hk
  have HFS := Lib.hid hfs
  subst hva hvk
  have HFIT := Lib.hid hf
  clear hv hk hf hfs
  obtain ⟨n, hn⟩ : ∃ n, n = L.length := ⟨_, rfl⟩
  obtain ⟨m, hm⟩ : ∃ n, n = K.length := ⟨_, rfl⟩
  have HN := Lib.hid hn
  rw [← hn] at HV hlen hlc
  rw [← hm] at HK
  rw [← hn, ← hm]
  clear hn hm
  have HA := Lib.hid (fun w1 => awake_any w1)
  go_enter Try.func5, Try.ntmps5
  go_wp2_with fail
  refine (HA.out _).mono ?_
  rintro e w1 ⟨rfl, g1⟩
  have b1 : w1.cell? ⟨w.heap.size, 0, none⟩ = some (.slice A n c) := g1.cell (by simp)
  have hz1 : w.heap.size < w1.heap.size := Nat.lt_of_lt_of_le (by simp) g1.size
  have G1 := Lib.hid ((gr_box w (.cells #[.slice A n c] 24)).trans g1)
  have HC1 := Lib.hid (crash_any _ _ L K w1 (HV.out.gr G1.out) (HK.out.gr G1.out) HFIT.out (by rw [← HN.out]; exact hlen))
  clear g1
  go_wp2_with fail
  refine HC1.out.mono ?_
  rintro e w2 ⟨v2, rfl, hf2, g2⟩
  have HG2 := Lib.hid (G1.out.trans g2)
  have hcl : (crash L K).length = n := by rw [crash_len, HN.out]
  obtain ⟨A2, c2, hv2, hc2, hc263⟩ := hf2.form
  rw [hcl] at hv2 hc2
  subst hv2
  have b2 := g2.cell b1
  have hz2 : w.heap.size < w2.heap.size := Nat.lt_of_lt_of_le hz1 g2.size
  obtain ⟨W3, hW3, G3, x3, hz3⟩ : ∃ W3, W3 = w2.alloc (.cells #[.slice A2 n c2] 24) ∧ Gr w2 W3 ∧ W3.cell? ⟨w2.heap.size, 0, none⟩ = some (.slice A2 n c2) ∧ w2.heap.size < W3.heap.size := ⟨_, rfl, gr_box w2 _, by simp, by simp⟩
  have HF3 := Lib.hid (hf2.gr G3)
  have HG3 := Lib.hid (HG2.out.trans G3)
  have b3 := G3.cell b2
  go_upto_region 4 with (fail)
  rw [← hW3]
  obtain ⟨h7, hh7⟩ : ∃ h, h = w2.heap.size := ⟨_, rfl⟩
  rw [← hh7] at x3 hz3 hz2 ⊢
  have X3 := Lib.hid x3
  have B3 := Lib.hid b3
  have HCL := Lib.hid hcl
  clear hW3 hf2 g2 b1 b2 hh7 hcl G3
  go_wp2_with fail
  go_loopw [6] (fun i wr => ∃ k : Nat, k ≤ n ∧ i = .int .i64 (k : Int) ∧ Gr W3 wr) (fun i _ => n - (intOf i).toNat)
  case atStart => exact ⟨0, Nat.zero_le _, rfl, Gr.refl _⟩
  case round =>
    obtain ⟨k, hk, rfl, hgr⟩ := hrel
    have y3 := hgr.cell b3
    have y7 := hgr.cell x3
    have HGR := Lib.hid hgr
    clear hgr b3 x3
    by_cases hlt : k < n
    · have hkL : k < L.length := by rw [← HN.out]; exact hlt
      have hkC : k < (crash L K).length := by rw [HCL.out]; exact hlt
      obtain ⟨a1, o1, rfl, hcl1⟩ := HFS.out k hkL
      have hw1 : a1 < w.heap.size := World.block_lt_of_cell? w ⟨a1, o1 + k * 3, none⟩ hcl1.1
      obtain ⟨g, cc, hvv⟩ := HF3.out.addr hkC
      injection hvv with q1 q2 q3
      subst q1 q3
      clear q2
      have hcl2 := HF3.out.at_ hkC
      have hgl := (HF3.out.len).2.2.2.2
      obtain ⟨f, hfe⟩ : ∃ f, f = L[k] := ⟨_, rfl⟩
      have hcr : (crash L K)[k] = crashAt f K k := by rw [hfe]; exact crash_at hkL
      rw [hcr] at hcl2
      rw [← hfe] at hcl1
      obtain ⟨x, hx⟩ : ∃ x, x = f.kept ++ f.loose.extract 0 (amount f K k) := ⟨_, rfl⟩
      have hf2 : crashAt f K k = ⟨f.name, x, ⟨#[]⟩⟩ := by rw [hx]; rfl
      rw [hf2] at hcl2
      have hfit := HFIT.out f (by rw [hfe]; exact List.getElem_mem _)
      unfold FitF F.size at hfit
      have hb1 : beginsS x f.kept = true := by rw [hx]; exact begins_pre _ _
      have hb2 : beginsS (f.kept ++ f.loose) x = true := by rw [hx]; exact begins_mid _ _ _ (Nat.min_le_right _ _)
      have hxs : x.size ≤ 281474976710656 := by rw [hx, append_size', ByteArray.size_extract]; omega
      have HBG := Lib.hid (And.intro hb1 (And.intro hb2 hxs))
      obtain ⟨u0, u1, u2⟩ := (hcl1.gr HG3.out).gr HGR.out
      have hcl2' := hcl2.gr HGR.out
      obtain ⟨t0, t1, t2⟩ := hcl2'
      have hs3 : W3.heap.size ≤ wr.heap.size := HGR.out.size
      have hs3w : w.heap.size ≤ W3.heap.size := HG3.out.size
      have HCS : Hid (CS wr w.heap.size h7 a1 (o1 + k * 3) g (k * 3) (.slice (some ⟨a1, o1, none⟩) n c) (.slice (some ⟨g, 0, none⟩) n c2) f ⟨f.name, x, ⟨#[]⟩⟩ wr) := Lib.hid ⟨y3, y7, u0, u1, u2, t0, t1, t2, Gr.refl _, by omega, by omega, by omega, by omega⟩
      clear u0 u1 u2 t0 t1 t2 hcl1 hcl2 hcr hfe hx hf2 hb1 hb2
      go_upto_region 9 with (fail)
      go_cut [7, 8] (fun s7 s8 wx => ∃ b7 b8, s7 = .pointer (some ⟨b7, 0, none⟩) ∧ s8 = .pointer (some ⟨b8, 0, none⟩) ∧ FCell wx b7 0 f ∧ FCell wx b8 0 ⟨f.name, x, ⟨#[]⟩⟩ ∧ Gr wr wx)
      case first =>
        go_region_held3 (fun w' => CS wr w.heap.size h7 a1 (o1 + k * 3) g (k * 3) (.slice (some ⟨a1, o1, none⟩) n c) (.slice (some ⟨g, 0, none⟩) n c2) f ⟨f.name, x, ⟨#[]⟩⟩ w')
          (first
            | (with_reducible exact HCS.out)
            | (with_reducible exact CS.gr HCS.out (Gr.refl _).drew)
            | (with_reducible refine CS.alloc ?_; with_reducible assumption)
            | (with_reducible refine CS.allocDrew ?_; with_reducible assumption)
            | (with_reducible exact CS.gr HCS.out (((Gr.refl _).alloc _).alloc _).drew))
          (first
            | fail)
        all_goals
          go_wp2_with fail
          go_meet
          refine ⟨_, _, rfl, rfl, ⟨by simp, by simp, by simp⟩, ⟨by simp, by simp, by simp⟩, (((Gr.refl wr).alloc _).alloc _).drew⟩
      case rest =>
        obtain ⟨b7, b8, rfl, rfl, ⟨d0, d1, d2⟩, ⟨e0, e1, e2⟩, hgx⟩ := hcut
        dsimp only at e0 e1 e2
        rw [Nat.zero_add] at d1 d2 e1 e2
        have HGX := Lib.hid hgx
        have HF2 := Lib.hid hfit.2
        have HB1 := Lib.hid (begins_any x f.kept (by have := HBG.out.2.2; omega))
        have HB2 := Lib.hid (begins_any (f.kept ++ f.loose) x (by rw [append_size']; omega))
        rw [HBG.out.1] at HB1
        rw [HBG.out.2.1] at HB2
        have hnn : (f.name.toList == f.name.toList) = true := eqS_self f.name
        have hsum : f.kept.size + f.loose.size ≤ 281474976710656 := hfit.2
        clear hgx hfit
        go_wp2_with fail
        refine (HB1.out _).mono ?_
        rintro e w4 ⟨rfl, rfl⟩
        go_wp2_with fail
        refine (HB2.out _).mono ?_
        rintro e w4 ⟨rfl, rfl⟩
        go_wp2_with fail
        go_roundw
        case rel => exact ⟨k + 1, hlt, by go_num, HGR.out.trans HGX.out⟩
        case measure => simp [intOf]; omega
    · go_wp2_with fail
      go_ret
      exact ⟨rfl, HG3.out.trans HGR.out⟩
end Go.Proofs.Ytonlplfjiaejhaa
