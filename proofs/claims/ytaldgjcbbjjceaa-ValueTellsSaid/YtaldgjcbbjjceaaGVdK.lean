/- Walk: the law ValueTells. -/
import Derived.Test.YtaldgjcbbjjceaaGVdJ
import Derived.Test.YtaldgjcbbjjceaaGVdM
import Derived.Test.YtaldgjcbbjjceaaGVsSame
import Derived.Test.YtaldgjcbbjjceaaG09
namespace Go.Proofs.Ytaldgjcbbjjceaa
open Go.RowKit Go.Joins
set_option linter.unusedSimpArgs false
set_option linter.unusedVariables false

theorem RetR.form {r : VR} {k : Nat} {w : World} {e : Ending} {w' : World} (h : RetR r k w e w') : ∃ A c, e = .returned (.tuple #[.agg #[.int .i64 r.n, .slice A r.e.length c, .bool r.on], .int .i64 (k : Int)]) ∧ SV w' (.slice A r.e.length c) r.e ∧ Gr w w' := by
  obtain ⟨ve, h1, h2, h3⟩ := h
  obtain ⟨A, c, hv⟩ := sv_form h2
  subst hv
  exact ⟨A, c, h1, h2, h3⟩
set_option maxRecDepth 100000 in
set_option maxHeartbeats 8000000 in
theorem tells10_law (kind start : Int) (u : Nat → S3) (l : LG) (v : Nat → Nat) (key : ByteArray) (w : World) (h : LV w u l) (hf : FitL l) (hst : wrap64 start = start) (hm : valV kind start l v key = rvalV kind start l v key) :
    Calls Try.prog 3 #[.int .i64 kind, .int .i64 start, .agg (lcells u), .agg (vcells v), .string key] w fun e w' => e = .returned (.bool true) ∧ Gr w w' := by
  obtain ⟨W, hW, hg, hsz, hL, hV⟩ := boxesLV u v w
  have HL := Lib.hid hL
  have HV := Lib.hid hV
  have HG := Lib.hid hg
  have HLV := Lib.hid (h.gr hg)
  have HCP := Lib.hid (fun w1 (g : Gr W w1) => rcopy9_any u l w1 (HLV.out.gr g) hf.c)
  have HVA := Lib.hid (fun u2 w1 (k : LV w1 u2 l) => (value_any kind start u2 l v key w1 k hf.q hst).mono fun e w' h => h.form)
  have HVB := Lib.hid (fun w1 (g : Gr W w1) => (rval_any kind start u l v key w1 (HLV.out.gr g) hf.q hf.c hst).mono fun e w' h => h.form)
  have HSM := Lib.hid (fun u2 w1 (k : LV w1 u2 l) (g : Gr W w1) => rsame9_any u2 u l l w1 k (HLV.out.gr g))
  rw [sameLG_self] at HSM
  obtain ⟨r, hr⟩ : ∃ r, r = valV kind start l v key := ⟨_, rfl⟩
  obtain ⟨ce, hce⟩ : ∃ c, c = valE kind l v := ⟨_, rfl⟩
  rw [← hm] at HVB
  rw [← hr, ← hce] at HVA HVB
  obtain ⟨E, hE⟩ : ∃ E, E = r.e := ⟨_, rfl⟩
  obtain ⟨n, hn⟩ : ∃ n, n = r.n := ⟨_, rfl⟩
  obtain ⟨on, hon⟩ : ∃ x, x = r.on := ⟨_, rfl⟩
  rw [← hE, ← hn, ← hon] at HVA HVB
  obtain ⟨m, hmm⟩ : ∃ m, m = E.length := ⟨_, rfl⟩
  rw [← hmm] at HVA HVB
  have HM := Lib.hid hmm
  clear h hf hL hV hg hsz hr hce hE hn hon hm hst hmm
  go_enter Try.func3, Try.ntmps3
  go_upto_region 1 with (fail)
  rw [← hW]
  clear hW
  go_wp2_with fail
  refine (awake10_any W).mono ?_
  rintro e w1 ⟨rfl, g1⟩
  have HG1 := Lib.hid g1
  obtain ⟨l0, l1, l2, l3, l4, l5, l6, l7⟩ := (HL.out.gr g1).all
  clear g1
  go_wp2_with fail
  refine (HCP.out _ HG1.out).mono ?_
  rintro e w2 ⟨u2, rfl, hln, g2⟩
  clear l0 l1 l2 l3 l4 l5 l6 l7
  obtain ⟨W3, hW3, hg3, hL3⟩ : ∃ W, W = w2.alloc (.cells (lcells u2) 24) ∧ Gr w2 W ∧ LBox W w2.heap.size u2 := ⟨_, rfl, (Gr.refl _).alloc _, ⟨heap_alloc _ _ _⟩⟩
  obtain ⟨P, hP⟩ : ∃ P, P = w2.heap.size := ⟨_, rfl⟩
  rw [← hP] at hL3
  have HL3 := Lib.hid hL3
  have HLV2 := Lib.hid (hln.lv.gr hg3)
  have HG3 := Lib.hid ((HG1.out.trans g2).trans hg3)
  clear g2 hg3 hL3 hln
  go_upto_region 4 with (fail)
  change Code.wp Try.prog _ _ _ (w2.alloc (.cells (lcells u2) 24))
  rw [← hW3, ← hP]
  clear hW3 hP
  obtain ⟨l0, l1, l2, l3, l4, l5, l6, l7⟩ := HL3.out.all
  obtain ⟨v0, v1, v2, v3, v4, v5, v6, v7⟩ := (HV.out.gr HG3.out).all
  go_wp2_with fail
  refine (HVA.out u2 _ HLV2.out).mono ?_
  rintro e w4 ⟨A1, c1, rfl, ho1, g4⟩
  clear l0 l1 l2 l3 l4 l5 l6 l7 v0 v1 v2 v3 v4 v5 v6 v7
  obtain ⟨W5, hW5, hg5, hb5⟩ : ∃ W, W = w4.alloc (.cells #[.int .i64 n, .slice A1 m c1, .bool on] 32) ∧ Gr w4 W ∧ W.heap[w4.heap.size]? = some (.cells #[.int .i64 n, .slice A1 m c1, .bool on] 32 (0, 0)) := ⟨_, rfl, (Gr.refl _).alloc _, heap_alloc _ _ _⟩
  obtain ⟨Q1, hQ1⟩ : ∃ Q, Q = w4.heap.size := ⟨_, rfl⟩
  rw [← hQ1] at hb5
  have HB5 := Lib.hid hb5
  have HS5 := Lib.hid (ho1.sv.gr hg5)
  have HG35 := Lib.hid (g4.trans hg5)
  have HG5 := Lib.hid (HG3.out.trans HG35.out)
  clear ho1 g4 hg5 hb5
  go_upto_region 5 with (fail)
  change Code.wp Try.prog _ _ _ (w4.alloc (.cells #[.int .i64 n, .slice A1 m c1, .bool on] 32))
  rw [← hW5, ← hQ1]
  clear hW5 hQ1
  obtain ⟨l0, l1, l2, l3, l4, l5, l6, l7⟩ := (HL.out.gr HG5.out).all
  obtain ⟨v0, v1, v2, v3, v4, v5, v6, v7⟩ := (HV.out.gr HG5.out).all
  go_wp2_with fail
  refine (HVB.out _ HG5.out).mono ?_
  rintro e w6 ⟨A2, c2, rfl, ho2, g6⟩
  clear l0 l1 l2 l3 l4 l5 l6 l7 v0 v1 v2 v3 v4 v5 v6 v7
  obtain ⟨W7, hW7, hg7, hb7⟩ : ∃ W, W = w6.alloc (.cells #[.int .i64 n, .slice A2 m c2, .bool on] 32) ∧ Gr w6 W ∧ W.heap[w6.heap.size]? = some (.cells #[.int .i64 n, .slice A2 m c2, .bool on] 32 (0, 0)) := ⟨_, rfl, (Gr.refl _).alloc _, heap_alloc _ _ _⟩
  obtain ⟨Q2, hQ2⟩ : ∃ Q, Q = w6.heap.size := ⟨_, rfl⟩
  rw [← hQ2] at hb7
  have HS7 := Lib.hid (ho2.gr hg7)
  have HG57 := Lib.hid (g6.trans hg7)
  have HG7 := Lib.hid (HG5.out.trans HG57.out)
  have hb5' := gr_obj HG57.out HB5.out
  have x0 : W7.cell? ⟨Q1, 0, none⟩ = some (.int .i64 n) := by rw [cell_of_block hb5']; rfl
  have x1 : W7.cell? ⟨Q1, 1, none⟩ = some (.slice A1 m c1) := by rw [cell_of_block hb5']; rfl
  have x2 : W7.cell? ⟨Q1, 2, none⟩ = some (.bool on) := by rw [cell_of_block hb5']; rfl
  have y0 : W7.cell? ⟨Q2, 0, none⟩ = some (.int .i64 n) := by rw [cell_of_block hb7]; rfl
  have y1 : W7.cell? ⟨Q2, 1, none⟩ = some (.slice A2 m c2) := by rw [cell_of_block hb7]; rfl
  have y2 : W7.cell? ⟨Q2, 2, none⟩ = some (.bool on) := by rw [cell_of_block hb7]; rfl
  have HSA := Lib.hid (same10_any n on A1 A2 m c1 c2 E W7 HM.out (HS5.out.gr HG57.out) HS7.out)
  have HLV7 := Lib.hid ((HLV2.out.gr HG35.out).gr HG57.out)
  have HL37 := Lib.hid ((HL3.out.gr HG35.out).gr HG57.out)
  clear ho2 g6 hg7 hb7 hb5'
  go_upto_region 6 with (fail)
  change Code.wp Try.prog _ _ _ (w6.alloc (.cells #[.int .i64 n, .slice A2 m c2, .bool on] 32))
  rw [← hW7, ← hQ2]
  clear hW7 hQ2
  go_wp2_with fail
  refine HSA.out.mono ?_
  rintro e w8 ⟨rfl, g8⟩
  have HG8 := Lib.hid g8
  have HS8 := Lib.hid (HSM.out u2 w8 (HLV7.out.gr g8) (HG7.out.trans g8))
  clear x0 x1 x2 y0 y1 y2
  obtain ⟨l0, l1, l2, l3, l4, l5, l6, l7⟩ := (HL.out.gr (HG7.out.trans g8)).all
  obtain ⟨k0, k1, k2, k3, k4, k5, k6, k7⟩ := (HL37.out.gr g8).all
  clear g8
  go_wp2_with fail
  refine HS8.out.mono ?_
  rintro e w9 ⟨rfl, g9⟩
  have HG9 := Lib.hid (HG8.out.trans g9)
  clear g9 l0 l1 l2 l3 l4 l5 l6 l7 k0 k1 k2 k3 k4 k5 k6 k7
  go_wp2_with fail
  go_ret
  exact ⟨rfl, (HG.out.trans HG7.out).trans HG9.out⟩
theorem wrapT_of {n : Int} (h : -9223372036854775808 ≤ n ∧ n ≤ 9223372036854775807) : wrap64 n = n := by
  unfold wrap64
  omega
theorem tells10_said (kind start : Int) (u : Nat → S3) (l : LG) (v : Nat → Nat) (key : ByteArray) (w : World) (h : LV w u l) (hf : FitL l) (hst : wrap64 start = start) :
    Calls Try.prog 3 #[.int .i64 kind, .int .i64 start, .agg (lcells u), .agg (vcells v), .string key] w fun e w' => e = .returned (.bool true) ∧ Gr w w' :=
  tells10_law kind start u l v key w h hf hst (rvalV_same kind start l v key)
end Go.Proofs.Ytaldgjcbbjjceaa
