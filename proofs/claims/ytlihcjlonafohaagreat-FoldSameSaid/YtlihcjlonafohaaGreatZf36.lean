/- Walk: Apply. Written by wip/tools/genfop.py. -/
import Derived.Test.YtlihcjlonafohaaGreatZf35
namespace Go.Proofs.YtlihcjlonafohaaGreat
open Go.RowKit Go.Joins
set_option linter.unusedSimpArgs false
set_option linter.unusedVariables false

/-- What Apply's loop keeps. -/
structure ApG (w0 : World) (B S X R : Nat) (t : TX) (v : Value) (s : FS) (ve vl : Value) (w : World) : Prop where
  sb : w.heap[S]? = some (.cells (fsc s.k s.n ve vl s.has s.st s.top s.df) 39 (0, 0))
  xb : w.heap[X]? = some (.cells (tcs t v) 45 (0, 0))
  rb : w.heap[R]? = some (.cells (fsc 0 0 (.slice none 0 0) (.slice none 0 0) false 0 tg0 false) 39 (0, 0))
  e : SO w B ve s.ever
  l : GOw w B vl s.live
  b : B ≤ w.heap.size
  gr : Gr w0 w
theorem ApG.next {w0 : World} {B S X R : Nat} {t : TX} {v : Value} {s : FS} {ve vl : Value} {w w' : World} (h : ApG w0 B S X R t v s ve vl w) (g : Gr w w') : ApG w0 B S X R t v s ve vl w' :=
  ⟨gr_obj g h.sb, gr_obj g h.xb, gr_obj g h.rb, h.e.gr g, h.l.gr g, Nat.le_trans h.b g.size, h.gr.trans g⟩
/-- The state's box written anew, from what done answers. -/
theorem ApG.put {w0 : World} {B S X R : Nat} {t : TX} {v : Value} {s s' : FS} {ve vl ve' vl' : Value} {w w' : World} (h : ApG w0 B S X R t v s ve vl w) (hS : w0.heap.size ≤ S) (hSB : S < B) (hXB : X < B) (hRB : R < B) (hSX : X ≠ S) (hSR : R ≠ S) (h0 : w0.heap.size ≤ B)
    (he : SO w' B ve' s'.ever) (hl : GOw w' B vl' s'.live) (k : StayB B w w') : ApG w0 B S X R t v s' ve' vl' (w'.setRow S (fsc s'.k s'.n ve' vl' s'.has s'.st s'.top s'.df)) := by
  have hs : w'.heap[S]? = some (.cells (fsc s.k s.n ve vl s.has s.st s.top s.df) 39 (0, 0)) := by rw [k.block S hSB]; exact h.sb
  have hg : Gr w0 w' := k.gr h.gr h0
  obtain ⟨-, -, h3⟩ : True ∧ True ∧ Gr w0 (w'.setRow S (fsc s'.k s'.n ve' vl' s'.has s'.st s'.top s'.df)) := ⟨trivial, trivial, below_setRow hg hS _⟩
  refine ⟨setRow_heap w' S _ _ 39 _ hs, ?_, ?_, World.ownsRow.kept he (kp_setRow w' S _) (.inr (own_ne_obj he hs (by decide))), World.ownsRow.kept hl (kp_setRow w' S _) (.inr (own_ne_obj hl hs (by decide))), by simpa [World.setRow] using k.size, h3⟩
  · rw [setRow_other w' S X _ hSX, k.block X hXB]; exact h.xb
  · rw [setRow_other w' S R _ hSR, k.block R hRB]; exact h.rb
/-- What the region of a deed reads. -/
structure ApR (w0 : World) (B S X R : Nat) (t : TX) (v : Value) (s : FS) (ve vl : Value) (w : World) : Prop where
  g : ApG w0 B S X R t v s ve vl w
  x : XFix w X 0 t v
  s0 : w.cell? ⟨S, 0, none⟩ = some (.int .i64 s.k)
  s1 : w.cell? ⟨S, 1, none⟩ = some (.int .i64 s.n)
  s2 : w.cell? ⟨S, 2, none⟩ = some ve
  s3 : w.cell? ⟨S, 3, none⟩ = some vl
  s4 : w.cell? ⟨S, 4, none⟩ = some (.bool s.has)
  s5 : w.cell? ⟨S, 5, none⟩ = some (.int .u64 (s.st : Int))
  s6 : w.cell? ⟨S, 6, none⟩ = some (.int .i64 s.top.o)
  s7 : w.cell? ⟨S, 7, none⟩ = some (.int .i64 s.top.i)
  s8 : w.cell? ⟨S, 8, none⟩ = some (.int .u64 (s.top.s : Int))
  s9 : w.cell? ⟨S, 9, none⟩ = some (.string s.top.e)
  s10 : w.cell? ⟨S, 10, none⟩ = some (.bool s.df)
theorem ApG.r' {w0 : World} {B S X R : Nat} {t : TX} {v : Value} {s : FS} {ve vl : Value} {w : World} (h : ApG w0 B S X R t v s ve vl w) : ApR w0 B S X R t v s ve vl w := by
  have hs := h.sb
  have hx := h.xb
  refine ⟨h, ⟨?_, ?_, ?_, ?_, ?_, ?_, ?_, ?_, ?_, ?_, ?_, ?_⟩, ?_, ?_, ?_, ?_, ?_, ?_, ?_, ?_, ?_, ?_, ?_⟩
  all_goals first | (rw [cell_of_block hs]; rfl) | (rw [cell_of_block hx]; rfl)
def RetAp (s : FS) (w : World) (e : Ending) (w' : World) : Prop := ∃ v, e = .returned (.tuple #[v, .int .i64 0]) ∧ FV w' w.heap.size v s ∧ Gr w w'
set_option maxRecDepth 100000 in
set_option maxHeartbeats 8000000 in
theorem apply_ok (s : FS) (v : Value) (t : TX) (A : Option Addr) (n c : Nat) (key : ByteArray) (w : World) (h : RV w v s) (hk : knownB s.k = true) (hv : TOV w (.slice A n c) t.ops) (hq : t.seq < 18446744073709551616) (hks : ∀ o ∈ t.ops, o.key.size ≤ 9223372036854775807 ∧ o.elem.size ≤ 281474976710656) (hok : okTx t) (hft : FitM 900000 s) :
    Calls Tryz.prog 14 #[v, .agg (tcs t (.slice A n c)), .string key] w fun e w' => RetAp (applyS key t s) w e w' := by
  obtain ⟨ve, vl, rfl, he, hl⟩ := h
  obtain ⟨A1, n1, c1, rfl⟩ := sv_form3 he
  obtain ⟨A2, n2, c2, rfl⟩ := gv_form hl
  obtain ⟨W1, hW1, hg1, hs1⟩ : ∃ W, W = w.alloc (.cells (fsc s.k s.n (.slice A1 n1 c1) (.slice A2 n2 c2) s.has s.st s.top s.df) 39) ∧ Gr w W ∧ W.heap[w.heap.size]? = some (.cells (fsc s.k s.n (.slice A1 n1 c1) (.slice A2 n2 c2) s.has s.st s.top s.df) 39 (0, 0)) := ⟨_, rfl, (Gr.refl _).alloc _, heap_alloc _ _ _⟩
  obtain ⟨W2, hW2, hg2, hx2⟩ : ∃ W, W = W1.alloc (.cells (tcs t (.slice A n c)) 45) ∧ Gr W1 W ∧ W.heap[W1.heap.size]? = some (.cells (tcs t (.slice A n c)) 45 (0, 0)) := ⟨_, rfl, (Gr.refl _).alloc _, heap_alloc _ _ _⟩
  obtain ⟨W, hW, hg3, hz⟩ : ∃ W, W = W2.alloc (.cells (fsc 0 0 (.slice none 0 0) (.slice none 0 0) false 0 tg0 false) 39) ∧ Gr W2 W ∧ W.heap[W2.heap.size]? = some (.cells (fsc 0 0 (.slice none 0 0) (.slice none 0 0) false 0 tg0 false) 39 (0, 0)) := ⟨_, rfl, (Gr.refl _).alloc _, heap_alloc _ _ _⟩
  have e1 : W1.heap.size = w.heap.size + 1 := by rw [hW1]; simp
  have e2 : W2.heap.size = w.heap.size + 1 + 1 := by rw [hW2]; simp [e1]
  obtain ⟨S, hS⟩ : ∃ S, S = w.heap.size := ⟨_, rfl⟩
  obtain ⟨X, hX⟩ : ∃ S, S = w.heap.size + 1 := ⟨_, rfl⟩
  obtain ⟨R, hR⟩ : ∃ S, S = w.heap.size + 1 + 1 := ⟨_, rfl⟩
  rw [← hS] at hs1
  rw [e1, ← hX] at hx2
  rw [e2, ← hR] at hz
  have hs := gr_obj hg3 (gr_obj hg2 hs1)
  have hx := gr_obj hg3 hx2
  have hgw : Gr w W := (hg1.trans hg2).trans hg3
  have HB0 : Hid (w.heap.size ≤ S ∧ w.heap.size ≤ R ∧ X ≠ S ∧ R ≠ S ∧ S < W.heap.size ∧ X < W.heap.size ∧ R < W.heap.size ∧ w.heap.size ≤ W.heap.size) := Lib.hid ⟨by omega, by omega, by omega, by omega, (Array.getElem?_eq_some_iff.1 hs).1, (Array.getElem?_eq_some_iff.1 hx).1, (Array.getElem?_eq_some_iff.1 hz).1, hgw.size⟩
  have k0 : W.cell? ⟨S, 0, none⟩ = some (.int .i64 s.k) := by rw [cell_of_block hs]; rfl
  have HS := Lib.hid hs
  have HX := Lib.hid hx
  have HZ := Lib.hid hz
  have HG := Lib.hid hgw
  have HKN := Lib.hid (fun w1 => known_any s.k w1)
  rw [hk] at HKN
  rw [hW1] at hW2
  rw [hW2] at hW
  have HCK := Lib.hid (fun w1 (g1 : Gr W w1) => check8_any t (.slice A n c) hq (fun o ho => (hks o ho).1) w1 ((hv.gr hgw).gr g1))
  rw [check_yes hok] at HCK
  have HNM := Lib.hid (fun w1 (g1 : Gr W w1) => named_any s (.agg (fsc s.k s.n (.slice A1 n1 c1) (.slice A2 n2 c2) s.has s.st s.top s.df)) hk w1 ⟨_, _, rfl, (he.gr hgw).gr g1, (hl.gr hgw).gr g1⟩)
  have HKS := Lib.hid hk
  have HVV := Lib.hid hv
  have HES := Lib.hid (fun o ho => (hks o ho).2)
  have HFT := Lib.hid hft
  have HO8 : Hid (t.ops.length ≤ 8) := Lib.hid hok.2.2.1
  clear hg1 hg2 hg3 hs1 hx2 e1 e2 hW1 hW2 hs hx hgw he hl hk hq hks hok hft
  go_enter Tryz.func14, Tryz.ntmps14
  go_upto_region 1 with (fail)
  change Code.wp Tryz.prog _ _ _ (((w.alloc (.cells (fsc s.k s.n (.slice A1 n1 c1) (.slice A2 n2 c2) s.has s.st s.top s.df) 39)).alloc (.cells (tcs t (.slice A n c)) 45)).alloc (.cells (fsc 0 0 (.slice none 0 0) (.slice none 0 0) false 0 tg0 false) 39))
  rw [← hW, ← hR, ← hX, ← hS]
  clear hW hR hX hS
  go_wp2_with fail
  refine (HKN.out _).mono ?_
  rintro e w2 ⟨rfl, hw2⟩
  subst hw2
  have hxl := HX.out
  go_wp2_with (refine wpList_load_row rfl 45 (.tmp 4) rfl X rfl 45 (tcs t (.slice A n c)) (0, 0) _ hxl Tryz.underlying45 rfl xinfo ?_)
  refine (HCK.out _ (Gr.refl _)).mono ?_
  rintro e w3 ⟨rfl, g3⟩
  have hsl := gr_obj g3 HS.out
  have HG3 := Lib.hid g3
  have HNM3 := Lib.hid (HNM.out w3 g3)
  clear hxl k0 g3
  go_wp2_with (refine wpList_load_row rfl 39 (.tmp 3) rfl S rfl 39 (fsc s.k s.n (.slice A1 n1 c1) (.slice A2 n2 c2) s.has s.st s.top s.df) (0, 0) _ hsl Tryz.underlying39 rfl sinfo ?_)
  refine HNM3.out.mono ?_
  rintro e w4 ⟨v4, rfl, hr4, g4⟩
  obtain ⟨ve4, vl4, rfl, he4, hl4⟩ := hr4
  obtain ⟨s4, hs4⟩ : ∃ x, x = namedS s := ⟨_, rfl⟩
  have HS4 := Lib.hid hs4
  have hf4 : FitM 900000 s4 := by rw [hs4]; exact HFT.out.named
  rw [← hs4] at he4 hl4
  rw [← hs4]
  clear hs4
  obtain ⟨k4, n4, E4, L4, has4, st4, top4, df4⟩ := s4
  simp only at he4 hl4
  have HCP := Lib.hid (copyF_any k4 n4 ve4 vl4 E4 L4 has4 st4 top4 df4 w4 he4 hl4 ⟨Nat.le_trans hf4.live (by decide), Nat.le_trans hf4.ever (by decide), hf4.sz, hf4.tz, hf4.top⟩)
  have HG4 := Lib.hid (HG3.out.trans g4)
  clear he4 hl4 hf4 g4 hsl
  go_wp2_with fail
  refine HCP.out.mono ?_
  rintro e w5 ⟨v5, rfl, hf5, g5⟩
  obtain ⟨ve5, vl5, rfl, he5, hl5⟩ := hf5
  simp only at he5 hl5
  obtain ⟨A3, c3, hv3, -, -⟩ := own_form he5
  obtain ⟨A4, c4, hv4, -, -⟩ := own_form hl5
  obtain ⟨n3, hn3⟩ : ∃ n, n = E4.length := ⟨_, rfl⟩
  obtain ⟨n4', hn4⟩ : ∃ n, n = L4.length := ⟨_, rfl⟩
  rw [← hn3] at hv3
  rw [← hn4] at hv4
  subst hv3
  subst hv4
  obtain ⟨B, hBB⟩ : ∃ B, B = w4.heap.size := ⟨_, rfl⟩
  rw [← hBB] at he5 hl5
  have HB1 : Hid (S < B ∧ X < B ∧ R < B ∧ w.heap.size ≤ B) := Lib.hid (by
    have h1 := HG4.out.size
    obtain ⟨-, -, -, -, h2, h3, h4, h5⟩ := HB0.out
    exact ⟨by omega, by omega, by omega, by omega⟩)
  have HG5 := Lib.hid (HG4.out.trans g5)
  have hs5 := gr_obj HG5.out HS.out
  have HA0 : Hid (StayB B w5 w5 ∧ SO w5 B (.slice A3 n3 c3) E4 ∧ GOw w5 B (.slice A4 n4' c4) L4) := Lib.hid ⟨⟨rfl, rfl, rfl, by rw [hBB]; exact g5.size, fun _ _ => rfl⟩, he5, hl5⟩
  have HA1 : Hid (ApG w B S X R t (.slice A n c) (stepTo key t s 0) (.slice A3 n3 c3) (.slice A4 n4' c4) (w5.setRow S (fsc k4 n4 (.slice A3 n3 c3) (.slice A4 n4' c4) has4 st4 top4 df4))) := Lib.hid (by
    have e0 : stepTo key t s 0 = ⟨k4, n4, E4, L4, has4, st4, top4, df4⟩ := HS4.out.symm
    rw [e0]
    have hsx := gr_obj HG5.out HS.out
    have hgw5 : Gr w w5 := HG.out.trans HG5.out
    refine ⟨setRow_heap w5 S _ _ 39 _ hsx, ?_, ?_, World.ownsRow.kept he5 (kp_setRow w5 S _) (.inr (own_ne_obj he5 hsx (by decide))), World.ownsRow.kept hl5 (kp_setRow w5 S _) (.inr (own_ne_obj hl5 hsx (by decide))), by have := HA0.out.1.size; simpa [World.setRow] using this, below_setRow hgw5 HB0.out.1 _⟩
    · rw [setRow_other w5 S X _ HB0.out.2.2.1]; exact gr_obj HG5.out HX.out
    · rw [setRow_other w5 S R _ HB0.out.2.2.2.1]; exact gr_obj HG5.out HZ.out)
  have HTV : Hid (∀ w1, Gr w w1 → TOV w1 (.slice A n c) t.ops) := Lib.hid (fun w1 g => HVV.out.gr g)
  obtain ⟨A', c', hvf, l1, ⟨l2, _⟩, l3⟩ := hv
  injection hvf with q1 q2 q3
  subst q1 q3
  have HN : Hid (n = t.ops.length) := Lib.hid q2
  have HL3 := Lib.hid l3
  have l2' : c ≤ 9223372036854775807 := l2
  have hn8 : n ≤ 8 := by rw [q2]; exact HO8.out
  clear l2 l3 q2 g5 he5 hl5 hn3 hn4 hBB l1
  go_upto_region 7 with (refine wpList_store_row rfl 39 (.tmp 3) (.tmp 24) rfl S (fsc k4 n4 (.slice A3 n3 c3) (.slice A4 n4' c4) has4 st4 top4 df4) rfl rfl 39 _ hs5 sinfo rfl (fsc_ones _ _ _ _ _ _ _ _ _ _ _ _) ?_)
  obtain ⟨W6, hW6⟩ : ∃ X, X = w5.setRow S (fsc k4 n4 (.slice A3 n3 c3) (.slice A4 n4' c4) has4 st4 top4 df4) := ⟨_, rfl⟩
  rw [← hW6] at HA1
  rw [← hW6]
  clear hW6 hs5
  have hp11 := HA1.out.r'.x.2.2.2.2.2.2.2.2.2.2.2
  rw [Nat.zero_add] at hp11
  go_wp2_with fail
  go_loopw [28] (fun i wr => ∃ j : Nat, j ≤ n ∧ i = .int .i64 j ∧ Hid (∃ ve vl, ApG w B S X R t (.slice A n c) (stepTo key t s j) ve vl wr)) (fun i _ => n - (intOf i).toNat)
  case atStart => exact ⟨0, Nat.zero_le _, rfl, Lib.hid ⟨_, _, HA1.out⟩⟩
  case round =>
    obtain ⟨j, hj, rfl, hst⟩ := hrel
    rename World => wr
    clear hp11
    obtain ⟨ve7, vl7, hst⟩ := hst.out
    obtain ⟨A7, c7, hv7, -, -⟩ := own_form hst.e
    obtain ⟨A8, c8, hv8, -, -⟩ := own_form hst.l
    obtain ⟨n7, hn7⟩ : ∃ n, n = (stepTo key t s j).ever.length := ⟨_, rfl⟩
    obtain ⟨n8, hn8'⟩ : ∃ n, n = (stepTo key t s j).live.length := ⟨_, rfl⟩
    rw [← hn7] at hv7
    rw [← hn8'] at hv8
    subst hv7
    subst hv8
    clear hn7 hn8'
    by_cases hjn : j < n
    · have hj0 : (0 : Int) ≤ (j : Int) := Int.natCast_nonneg _
      have hjn1 : (j : Int) < (n : Int) := by omega
      have hjl : j < t.ops.length := by rw [← HN.out]; exact hjn
      obtain ⟨b, off, rfl, ha⟩ := HL3.out j hjl
      obtain ⟨o, ho⟩ : ∃ f, f = t.ops[j] := ⟨_, rfl⟩
      rw [← ho] at ha
      have hoq : t.ops[j]? = some o := by rw [ho]; exact List.getElem?_eq_getElem hjl
      have HOQ := Lib.hid hoq
      have hes : o.elem.size ≤ 281474976710656 := by rw [ho]; exact HES.out _ (List.getElem_mem hjl)
      have HDO := Lib.hid (fun w1 (g : Gr wr w1) => deedOf_any t (some ⟨b, off, none⟩) n c j w1 (HTV.out w1 (hst.gr.trans g)) o hoq hes)
      have hfit : FitD (stepTo key t s j).ever (stepTo key t s j).live o := by
        have hm := stepTo_fit key HFT.out HES.out j
        have h1 := hm.live
        have h2 := hm.ever
        exact ⟨by omega, by omega, hm.sz, hes⟩
      have HFD := Lib.hid hfit
      have HST := Lib.hid hst
      obtain ⟨a0, a1, a2, a3⟩ := ha.gr hst.gr
      obtain ⟨W7, hW7, g7, q0, q1, q2, q3⟩ := obox wr o
      have HG7 := Lib.hid g7
      clear ha ho hoq hes hst hfit g7
      rcases hb : eqS o.key key with _ | _
      · have ht : (o.key.toList == key.toList) = false := hb
        have HSN : Hid (stepTo key t s (j + 1) = stepTo key t s j) := Lib.hid (stepTo_no HOQ.out hb)
        clear hb
        go_upto_region 10 with (fail)
        rw [show (#[Value.int .i64 o.kind, .string o.key, .string o.elem, .int .i64 o.n] : Array Value) = tovs o from rfl, ← hW7]
        clear hW7 a0 a1 a2 a3
        go_wp2_with fail
        go_roundw
        case rel => exact ⟨j + 1, by omega, by go_num, Lib.hid ⟨_, _, by rw [HSN.out]; exact HST.out.next HG7.out⟩⟩
        case measure => simp [intOf]; omega
      · have ht : (o.key.toList == key.toList) = true := hb
        have HSN : Hid (stepTo key t s (j + 1) = doneS t o (tagOf t j o) (stepTo key t s j)) := Lib.hid (stepTo_yes HOQ.out hb)
        clear hb
        have hkk : knownB (stepTo key t s j).k = true := by rw [stepTo_k]; exact HKS.out
        obtain ⟨sj, hsj⟩ : ∃ x, x = stepTo key t s j := ⟨_, rfl⟩
        rw [← hsj] at HSN HST HFD hkk
        clear hsj
        have HR7 : Hid (ApR w B S X R t (.slice (some ⟨b, off, none⟩) n c) sj (.slice A7 n7 c7) (.slice A8 n8 c8) W7) := Lib.hid (HST.out.next HG7.out).r'
        have HKK := Lib.hid hkk
        clear hkk
        obtain ⟨kj, mj, Ej, Lj, hasj, stj, topj, dfj⟩ := sj
        simp only at HR7 HFD HKK
        go_upto_region 10 with (fail)
        rw [show (#[Value.int .i64 o.kind, .string o.key, .string o.elem, .int .i64 o.n] : Array Value) = tovs o from rfl, ← hW7]
        clear hW7 a0 a1 a2 a3
        go_upto_region 11 with (fail)
        refine qTail 4 (fun w' => ApR w B S X R t (.slice (some ⟨b, off, none⟩) n c) ⟨kj, mj, Ej, Lj, hasj, stj, topj, dfj⟩ (.slice A7 n7 c7) (.slice A8 n8 c8) w' ∧ Gr wr w') (by kernel_rfl) (by kernel_rfl) ⟨(HR7.out.g.next (Gr.refl _).drew).r', HG7.out.drew⟩ ?_
        simp only [List.take_succ_cons, List.take_zero, List.drop_succ_cons, List.drop_zero]
        iterate 2
          refine qTake (by kernel_rfl) ?_
          apply Exists.intro
          refine ⟨fun wq hq => ?_, ?_⟩
          · go_light
            obtain ⟨⟨-, ⟨p0, p1, p2, p3, p4, p5, p6, p7, p8, p9, p10, p11⟩, s0, s1, s2, s3, s4, s5, s6, s7, s8, s9, s10⟩, -⟩ := hq
            go_simp
            try with_reducible rfl
            done
          try simp only [Act.put, List.setIfInBounds_toArray, List.set_cons_zero, List.set_cons_succ]
        refine qCall (by kernel_rfl) ?_
        apply Exists.intro
        refine ⟨?_, ?_⟩
        · apply Exists.intro
          apply Exists.intro
          refine ⟨fun wq => ?_, fun wq hq => ?_⟩
          · go_light
            go_simp
            exact ⟨rfl, rfl⟩
          · exact (HDO.out wq hq.2).mono fun e w'' ⟨he, hg⟩ => ⟨he, (hq.1.g.next hg).r', hq.2.trans hg⟩
        try simp only [Act.put, List.setIfInBounds_toArray, List.set_cons_zero, List.set_cons_succ]
        iterate 1
          refine qTake (by kernel_rfl) ?_
          apply Exists.intro
          refine ⟨fun wq hq => ?_, ?_⟩
          · go_light
            obtain ⟨⟨-, ⟨p0, p1, p2, p3, p4, p5, p6, p7, p8, p9, p10, p11⟩, s0, s1, s2, s3, s4, s5, s6, s7, s8, s9, s10⟩, -⟩ := hq
            go_simp
            try with_reducible rfl
            done
          try simp only [Act.put, List.setIfInBounds_toArray, List.set_cons_zero, List.set_cons_succ]
        refine qNil ?_
        intro w8 hC
        have HC := Lib.hid hC.1.g
        clear hC
        have HDN := Lib.hid (done_at t (some ⟨b, off, none⟩) n c o (tagOf t j o) ⟨kj, mj, Ej, Lj, hasj, stj, topj, dfj⟩ A7 A8 n7 c7 n8 c8 B w8 HKK.out HC.out.b HC.out.e HC.out.l HFD.out)
        simp only at HDN
        clear q0 q1 q2 q3
        go_wp2_with fail
        refine HDN.out.mono ?_
        rintro e w9 ⟨v9, rfl, hf9, k9⟩
        obtain ⟨ve9, vl9, rfl, he9, hl9⟩ := hf9
        obtain ⟨s9, hs9⟩ : ∃ x, x = doneS t o (tagOf t j o) ⟨kj, mj, Ej, Lj, hasj, stj, topj, dfj⟩ := ⟨_, rfl⟩
        rw [← hs9] at he9 hl9 HSN
        rw [← hs9]
        clear hs9
        obtain ⟨k9', m9, E9, L9, has9, st9, top9, df9⟩ := s9
        simp only at he9 hl9
        obtain ⟨A5, c5, hv5, -, -⟩ := own_form he9
        obtain ⟨A6, c6, hv6, -, -⟩ := own_form hl9
        obtain ⟨n5, hn5⟩ : ∃ n, n = E9.length := ⟨_, rfl⟩
        obtain ⟨n6, hn6⟩ : ∃ n, n = L9.length := ⟨_, rfl⟩
        rw [← hn5] at hv5
        rw [← hn6] at hv6
        subst hv5
        subst hv6
        have hs8 : w9.heap[S]? = some (.cells (fsc kj mj (.slice A7 n7 c7) (.slice A8 n8 c8) hasj stj topj dfj) 39 (0, 0)) := by rw [k9.block S HB1.out.1]; exact HC.out.sb
        have HPT := Lib.hid (HC.out.put (s' := ⟨k9', m9, E9, L9, has9, st9, top9, df9⟩) HB0.out.1 HB1.out.1 HB1.out.2.1 HB1.out.2.2.1 HB0.out.2.2.1 HB0.out.2.2.2.1 HB1.out.2.2.2 he9 hl9 k9)
        clear he9 hl9 k9 hn5 hn6
        go_wp2_with (refine wpList_store_row rfl 39 (.tmp 3) (.tmp 41) rfl S (fsc k9' m9 (.slice A5 n5 c5) (.slice A6 n6 c6) has9 st9 top9 df9) rfl rfl 39 _ hs8 sinfo rfl (fsc_ones _ _ _ _ _ _ _ _ _ _ _ _) ?_)
        go_roundw
        case rel => exact ⟨j + 1, by omega, by go_num, Lib.hid ⟨_, _, by rw [HSN.out]; exact HPT.out⟩⟩
        case measure => simp [intOf]; omega
    · obtain rfl : j = n := by omega
      have HST := Lib.hid hst
      have HSA : Hid (stepTo key t s j = applyS key t s) := Lib.hid (by rw [HN.out]; rfl)
      obtain ⟨sj, hsj⟩ : ∃ x, x = stepTo key t s j := ⟨_, rfl⟩
      rw [← hsj] at HSA HST
      clear hsj hst
      obtain ⟨kj, mj, Ej, Lj, hasj, stj, topj, dfj⟩ := sj
      have hs4 : wr.heap[S]? = some (.cells (fsc kj mj (.slice A7 n7 c7) (.slice A8 n8 c8) hasj stj topj dfj) 39 (0, 0)) := HST.out.sb
      have hz4 := HST.out.rb
      have HEW : Hid (SO wr w.heap.size (.slice A7 n7 c7) Ej) := Lib.hid (HST.out.e.le HB1.out.2.2.2)
      have HLW : Hid (GOw wr w.heap.size (.slice A8 n8 c8) Lj) := Lib.hid (HST.out.l.le HB1.out.2.2.2)
      have HGW : Hid (Gr w wr) := Lib.hid HST.out.gr
      go_wp2_with (first | (refine wpList_load_row rfl 39 (.tmp 3) rfl S rfl 39 (fsc kj mj (.slice A7 n7 c7) (.slice A8 n8 c8) hasj stj topj dfj) (0, 0) _ hs4 Tryz.underlying39 rfl sinfo ?_) | (refine wpList_store_row rfl 39 (.tmp 6) (.tmp 43) rfl R (fsc kj mj (.slice A7 n7 c7) (.slice A8 n8 c8) hasj stj topj dfj) rfl rfl 39 _ hz4 sinfo rfl (fsc_ones _ _ _ _ _ _ _ _ _ _ _ _) ?_))
      have hld := run_loadVar_row (P := Tryz.prog) (World.setRow wr R (fsc kj mj (.slice A7 n7 c7) (.slice A8 n8 c8) hasj stj topj dfj)) R 39 39 (fsc kj mj (.slice A7 n7 c7) (.slice A8 n8 c8) hasj stj topj dfj) (0, 0) _ (setRow_heap wr R _ (fsc kj mj (.slice A7 n7 c7) (.slice A8 n8 c8) hasj stj topj dfj) 39 _ hz4) Tryz.underlying39 rfl sinfo
      have HF := Lib.hid (fin_rows (fsc kj mj (.slice A7 n7 c7) (.slice A8 n8 c8) hasj stj topj dfj) hz4 HGW.out HB0.out.2.1 HEW.out HLW.out)
      clear hs4 hz4
      go_wp2_with fail
      refine bodyPost_ret (v := .tuple #[.agg (fsc kj mj (.slice A7 n7 c7) (.slice A8 n8 c8) hasj stj topj dfj), .int .i64 0]) (by simp [results, Tryz.results14, asAddr, hld]) rfl ⟨_, rfl, ?_, HF.out.2.2⟩
      rw [← HSA.out]
      exact ⟨_, _, rfl, HF.out.1, HF.out.2.1⟩
end Go.Proofs.YtlihcjlonafohaaGreat
