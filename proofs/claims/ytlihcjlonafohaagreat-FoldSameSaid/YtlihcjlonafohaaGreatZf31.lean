/- Walks: copies of fold, slices.Clone of tags, Copy. Written by wip/tools/genfom.py. -/
import Derived.Test.YtlihcjlonafohaaGreatZf30
import Derived.Test.YtlihcjlonafohaaGreatZf12
namespace Go.Proofs.YtlihcjlonafohaaGreat
open Go.RowKit Go.Joins
set_option linter.unusedSimpArgs false
set_option linter.unusedVariables false

set_option maxRecDepth 100000 in
set_option maxHeartbeats 2000000 in
theorem copiesF_any (v : Value) (T : List ByteArray) (w : World) (hv : SV w v T) (hlen : T.length ≤ 1000000) (hs : ∀ s ∈ T, s.size ≤ 281474976710656) :
    Calls Tryz.prog 91 #[v] w fun e w' => RetStrsV T w e w' := by
  have HC := Lib.hid (sclonesV_any v T w hv (by omega))
  obtain ⟨A, c, hvf, hnc, ⟨hcm, -⟩, hat⟩ := hv
  subst hvf
  have HAT : Hid (∀ j (hj : j < T.length), ∃ b off, A = some ⟨b, off, none⟩ ∧ w.cell? ⟨b, off + j, none⟩ = some (.string T[j])) := Lib.hid hat
  have HS := Lib.hid hs
  have hc63 : c ≤ 9223372036854775807 := by unfold maxLen at hcm; omega
  obtain ⟨n, hn⟩ : ∃ n, n = T.length := ⟨_, rfl⟩
  rw [← hn] at HC hnc hlen ⊢
  have HN := Lib.hid hn
  clear hn hat hs hcm
  go_enter Tryz.func91, Tryz.ntmps91
  go_wp2_with fail
  refine HC.out.mono ?_
  rintro e w1 ⟨s1, rfl, ho, g1⟩
  obtain ⟨A1, c1, hs1, -, -⟩ := own_form ho
  subst hs1
  have HO := Lib.hid ho
  have HG := Lib.hid g1
  rw [← HN.out]
  clear ho g1
  go_wp2_with fail
  go_loopw [10] (fun i wr => ∃ j : Nat, j ≤ n ∧ i = .int .i64 j ∧ Hid (SO wr w.heap.size (.slice A1 T.length c1) T ∧ Gr w wr)) (fun i _ => n - (intOf i).toNat)
  case atStart => exact ⟨0, Nat.zero_le _, rfl, Lib.hid ⟨HO.out, HG.out⟩⟩
  case round =>
    obtain ⟨j, hj, rfl, hst⟩ := hrel
    rename World => wr
    by_cases hjn : j < n
    · have hj0 : (0 : Int) ≤ (j : Int) := Int.natCast_nonneg _
      have hjn1 : (j : Int) < (n : Int) := by omega
      have hjl : j < T.length := by rw [← HN.out]; exact hjn
      obtain ⟨b, off, hA, q0⟩ := HAT.out j hjl
      subst hA
      have q1 := hst.out.2.cell q0
      obtain ⟨s, hse⟩ : ∃ s, s = T[j] := ⟨_, rfl⟩
      rw [← hse] at q0 q1
      have HSE := Lib.hid hse
      have HCL := Lib.hid (fun w1 => clone_any s (by rw [hse]; exact HS.out _ (List.getElem_mem hjl)) w1)
      have HST := Lib.hid hst.out
      obtain ⟨g, cc, hvv⟩ := HST.out.1.addrV hjl
      injection hvv with h1 h2 h3
      subst h1 h3
      clear h2 hse q0 hst
      go_wp2_with fail
      refine (HCL.out _).mono ?_
      rintro e w3 ⟨rfl, g3⟩
      have ho3 := own_gr HST.out.1 g3
      have c0 := SO.atV (show SO w3 w.heap.size (.slice (some ⟨g, 0, none⟩) T.length c1) T from ho3) hjl
      have f0 := SO.freeV (show SO w3 w.heap.size (.slice (some ⟨g, 0, none⟩) T.length c1) T from ho3) j
      have HS4 : Hid (SO (w3.setCell ⟨g, j, none⟩ (.string s)) w.heap.size (.slice (some ⟨g, 0, none⟩) T.length c1) T ∧ Gr w (w3.setCell ⟨g, j, none⟩ (.string s))) := Lib.hid ⟨by rw [HSE.out]; exact SO.sameV (show SO w3 w.heap.size (.slice (some ⟨g, 0, none⟩) T.length c1) T from ho3) hjl, (HST.out.2.trans g3).setCell (SO.lenV (show SO w3 w.heap.size (.slice (some ⟨g, 0, none⟩) T.length c1) T from ho3)).2.2.2.1 _⟩
      clear ho3 g3
      go_wp2_with fail
      go_roundw
      case measure => simp [intOf]; omega
      case rel => exact ⟨j + 1, by omega, by go_num, HS4⟩
    · obtain rfl : j = n := by omega
      have HE := Lib.hid hst.out
      clear hst
      go_wp2_with fail
      go_ret
      exact ⟨_, rfl, by rw [HN.out]; exact HE.out.1, HE.out.2⟩
theorem GV.sl {w : World} {v : Value} {ops : List TG} (h : GV w v ops) : SL w 4 v ops.length (gcells ops) := by
  obtain ⟨A, c, hv, h1, h2, h3⟩ := h
  refine ⟨A, c, hv, h1, h2, gcells_len ops, fun j u hj => ?_⟩
  obtain ⟨q, r, hq, hr, rfl, hu⟩ := rows_of gcell 4 gcell_len (by decide) ops j u hj
  obtain ⟨b, off, ha, c0, c1, c2, c3⟩ := h3 q hq
  refine ⟨b, off, ha, ?_⟩
  rw [← Nat.add_assoc]
  match r, hr with
  | 0, _ => injection hu with hu; rw [← hu]; exact c0
  | 1, _ => injection hu with hu; rw [← hu]; exact c1
  | 2, _ => injection hu with hu; rw [← hu]; exact c2
  | 3, _ => injection hu with hu; rw [← hu]; exact c3
set_option maxRecDepth 100000 in
theorem gclone_any (v : Value) (L : List TG) (w : World) (hv : GV w v L) (hlen : L.length * 40 ≤ 140737488355328) :
    Calls Tryz.prog 92 #[v] w fun e w' => ∃ u, e = .returned u ∧ GOw w' w.heap.size u L ∧ Gr w w' := by
  have HV := Lib.hid hv
  obtain ⟨A, c, rfl, l1, ⟨_, l2⟩, l3⟩ := hv
  cases A with
  | none =>
    have hn0 : L.length = 0 := by
      rcases Nat.eq_zero_or_pos L.length with h | h
      · exact h
      · obtain ⟨b, off, hh, _⟩ := l3 0 h
        cases hh
    have hL : L = [] := List.length_eq_zero_iff.1 hn0
    have hc0 := l2 rfl
    subst hL hc0
    clear l1 l2 l3 hn0
    have he : ∀ w : World, (binOp .eql 35 (.slice none 0 0) (.slice none 0 0)).run Tryz.prog w = .ok (.bool true) w := fun w => Lib.run_eql_slice_nil w 35 37 none 0 0 0 0 Tryz.underlying35
    go_enter Tryz.func92, Tryz.ntmps92
    go_wp2
    go_ret
    exact ⟨_, rfl, GOw.nil _ _, Gr.refl _⟩
  | some ad =>
    clear l1 l2 l3
    obtain ⟨i0, hi, hz0, hz1, hz2⟩ := info_parts infoTag
    have HI := Lib.hid (And.intro hi (And.intro hz0 (And.intro hz1 hz2)))
    clear hi hz0 hz1 hz2
    obtain ⟨n, hn⟩ : ∃ n, n = L.length := ⟨_, rfl⟩
    have he : ∀ w : World, (binOp .eql 35 (.slice (some ad) n c) (.slice none 0 0)).run Tryz.prog w = .ok (.bool false) w := fun w => Lib.run_eql_slice_nil w 35 37 (some ad) n c 0 0 Tryz.underlying35
    rw [← hn] at hlen HV ⊢
    have HSL := Lib.hid (HV.out.gr (gr_box w (.cells #[] 37))).sl
    rw [← hn] at HSL
    have HN := Lib.hid hn
    clear hn
    go_enter Tryz.func92, Tryz.ntmps92
    go_wp2_with (at_builtin; refine wpList_append_sl _ rfl (.tmp 5) (.tmp 6) 35 rfl w.heap.size 37 i0 _ 4 40 Tryz.underlying35 HI.out.1 HI.out.2.1 HI.out.2.2.1 HI.out.2.2.2 rfl (by decide) _ 0 [] rfl (own_none w _ 4) _ n (gcells L) rfl HSL.out (gcells_one L) (by unfold maxLen; omega) (by omega) (by simp) n (Nat.zero_add n) ?_; intro A5 c5 w5 hown5 hgr5 _)
    have HO : Hid (GOw w5 w.heap.size (.slice A5 n c5) L) := Lib.hid (by rw [List.nil_append] at hown5; unfold GOw; rw [← HN.out]; exact hown5)
    have HG : Hid (Gr w w5) := Lib.hid (gr_of_grown (gr_box w _) (own_none w _ 4) hgr5 (by simp))
    clear hown5 hgr5
    go_wp2
    go_ret
    exact ⟨_, rfl, HO.out, HG.out⟩
/-- A state's lists read so. -/
def RV (w : World) (v : Value) (s : FS) : Prop := ∃ ve vl, v = .agg (fsc s.k s.n ve vl s.has s.st s.top s.df) ∧ SV w ve s.ever ∧ GV w vl s.live
theorem RV.gr {w w' : World} {v : Value} {s : FS} (h : RV w v s) (g : Gr w w') : RV w' v s := by
  obtain ⟨ve, vl, h1, h2, h3⟩ := h
  exact ⟨ve, vl, h1, h2.gr g, h3.gr g⟩
structure FitR (s : FS) : Prop where
  live : s.live.length ≤ 1000000
  ever : s.ever.length ≤ 1000000
  sz : ∀ x ∈ s.ever, x.size ≤ 281474976710656
  tz : ∀ x ∈ s.live, x.e.size ≤ 281474976710656
  top : s.top.e.size ≤ 281474976710656
/-- What Copy's loop keeps. -/
structure CpG (w0 : World) (S R : Nat) (cs : Array Value) (v1 v2 : Value) (E : List ByteArray) (L : List TG) (w : World) : Prop where
  s : w.heap[S]? = some (.cells cs 39 (0, 0))
  z : w.heap[R]? = some (.cells (fsc 0 0 (.slice none 0 0) (.slice none 0 0) false 0 tg0 false) 39 (0, 0))
  e : SO w w0.heap.size v1 E
  l : GOw w w0.heap.size v2 L
  gr : Gr w0 w
theorem CpG.next {w0 : World} {S R : Nat} {cs : Array Value} {v1 v2 : Value} {E : List ByteArray} {L : List TG} {w w' : World} (h : CpG w0 S R cs v1 v2 E L w) (g : Gr w w') : CpG w0 S R cs v1 v2 E L w' := ⟨gr_obj g h.s, gr_obj g h.z, h.e.gr g, h.l.gr g, h.gr.trans g⟩
theorem CpG.tag {w0 : World} {S R : Nat} {cs : Array Value} {v1 : Value} {E : List ByteArray} {L : List TG} {w : World} {g n c j : Nat} (h : CpG w0 S R cs v1 (.slice (some ⟨g, 0, none⟩) n c) E L w) (hj : j < L.length) : CpG w0 S R cs v1 (.slice (some ⟨g, 0, none⟩) n c) E L (w.setCell ⟨g, j * 4 + 3, none⟩ (.string L[j].e)) := by
  obtain ⟨hn, -, -, hgB, -⟩ := h.l.len
  have hs : g ≠ S := fun e => own_ne_obj h.l h.s (by decide) (by rw [e]; rfl)
  have hz : g ≠ R := fun e => own_ne_obj h.l h.z (by decide) (by rw [e]; rfl)
  refine ⟨set_obj_other h.s hs.symm _, set_obj_other h.z hz.symm _, ?_, ?_, h.gr.setCell hgB _⟩
  · refine own_set_other h.e ?_ _ _
    intro e
    exact own_types h.e h.l (by decide) e rfl
  · have := h.l.store hj (r := 3) (by decide) L[j] (.string L[j].e) rfl
    rwa [List.set_getElem_self] at this
/-- What the loop's region reads. -/
structure CpR (w0 : World) (S R Q : Nat) (cs : Array Value) (v1 v2 : Value) (E : List ByteArray) (L : List TG) (x : TG) (w : World) : Prop where
  k : CpG w0 S R cs v1 v2 E L w
  x : TGc w Q 0 x
theorem CpR.next {w0 : World} {S R Q : Nat} {cs : Array Value} {v1 v2 : Value} {E : List ByteArray} {L : List TG} {x : TG} {w w' : World} (h : CpR w0 S R Q cs v1 v2 E L x w) (g : Gr w w') : CpR w0 S R Q cs v1 v2 E L x w' := ⟨h.k.next g, h.x.gr g⟩
set_option maxRecDepth 100000 in
set_option maxHeartbeats 8000000 in
theorem copyF_any (k m : Int) (ve vl : Value) (E : List ByteArray) (L : List TG) (has : Bool) (st : Nat) (top : TG) (df : Bool) (w : World) (he : SV w ve E) (hl : GV w vl L) (hft : FitR ⟨k, m, E, L, has, st, top, df⟩) :
    Calls Tryz.prog 45 #[.agg (fsc k m ve vl has st top df)] w fun e w' => RetD w ⟨k, m, E, L, has, st, top, df⟩ e w' := by
  obtain ⟨A1, c1, hve, -⟩ := id he
  obtain ⟨A2, c2, hvl, -⟩ := id hl
  obtain ⟨n1, hn1⟩ : ∃ n, n = E.length := ⟨_, rfl⟩
  obtain ⟨n2, hn2⟩ : ∃ n, n = L.length := ⟨_, rfl⟩
  rw [← hn1] at hve
  rw [← hn2] at hvl
  subst hve
  subst hvl
  have HN1 := Lib.hid hn1
  have HN2 := Lib.hid hn2
  obtain ⟨W1, hW1, hg1, hs1⟩ : ∃ W, W = w.alloc (.cells (fsc k m (.slice A1 n1 c1) (.slice A2 n2 c2) has st top df) 39) ∧ Gr w W ∧ W.heap[w.heap.size]? = some (.cells (fsc k m (.slice A1 n1 c1) (.slice A2 n2 c2) has st top df) 39 (0, 0)) := ⟨_, rfl, (Gr.refl _).alloc _, heap_alloc _ _ _⟩
  obtain ⟨W, hW, hg2, hz⟩ : ∃ W, W = W1.alloc (.cells (fsc 0 0 (.slice none 0 0) (.slice none 0 0) false 0 tg0 false) 39) ∧ Gr W1 W ∧ W.heap[W1.heap.size]? = some (.cells (fsc 0 0 (.slice none 0 0) (.slice none 0 0) false 0 tg0 false) 39 (0, 0)) := ⟨_, rfl, (Gr.refl _).alloc _, heap_alloc _ _ _⟩
  have e1 : W1.heap.size = w.heap.size + 1 := by rw [hW1]; simp
  obtain ⟨S, hS⟩ : ∃ S, S = w.heap.size := ⟨_, rfl⟩
  obtain ⟨R, hR⟩ : ∃ S, S = w.heap.size + 1 := ⟨_, rfl⟩
  rw [← hS] at hs1
  rw [e1, ← hR] at hz
  have hs := gr_obj hg2 hs1
  have hgw : Gr w W := hg1.trans hg2
  have HB0 : Hid (w.heap.size ≤ S ∧ w.heap.size ≤ R ∧ R ≠ S) := Lib.hid ⟨by omega, by omega, by omega⟩
  have HS := Lib.hid hs
  have HZ := Lib.hid hz
  have HG := Lib.hid hgw
  have HFT := Lib.hid hft
  have HCE := Lib.hid (copiesF_any (.slice A1 n1 c1) E W (he.gr hgw) hft.ever hft.sz)
  have HGL0 := Lib.hid hl
  have HCS := Lib.hid (fun (x : ByteArray) (hx : x.size ≤ 281474976710656) (w1 : World) => clone_any x hx w1)
  have p2 : W.cell? ⟨S, 2, none⟩ = some (.slice A1 n1 c1) := by rw [cell_of_block hs]; rfl
  rw [hW1] at hW
  clear hg1 hg2 hs1 e1 hW1 hs hz hgw he hl hft hn1 hn2
  go_enter Tryz.func45, Tryz.ntmps45
  go_upto_region 1 with (fail)
  change Code.wp Tryz.prog _ _ _ ((w.alloc (.cells (fsc k m (.slice A1 n1 c1) (.slice A2 n2 c2) has st top df) 39)).alloc (.cells (fsc 0 0 (.slice none 0 0) (.slice none 0 0) false 0 tg0 false) 39))
  rw [← hW, ← hR, ← hS]
  clear hW hR hS
  go_wp2_with fail
  refine HCE.out.mono ?_
  rintro e w1 ⟨v1, rfl, ho1, g1⟩
  have ho1 : SO w1 w.heap.size v1 E := ho1.le HG.out.size
  obtain ⟨A3, c3, hv1, -, -⟩ := own_form ho1
  obtain ⟨n3, hn3⟩ : ∃ n, n = E.length := ⟨_, rfl⟩
  rw [← hn3] at hv1
  subst hv1
  have hs2 := gr_obj g1 HS.out
  have q2 : w1.cell? ⟨S, 2, none⟩ = some (.slice A1 n1 c1) := by rw [cell_of_block hs2]; rfl
  have f2 := unfrozen_of_block hs2 2
  have HX := Lib.hid (And.intro ho1 (And.intro hs2 g1))
  clear ho1 g1 hs2 p2 hn3
  go_upto_region 2 with (fail)
  obtain ⟨W5, hW5⟩ : ∃ X, X = w1.setCell ⟨S, 2, none⟩ (.slice A3 n3 c3) := ⟨_, rfl⟩
  have hs5 : W5.heap[S]? = some (.cells (fsc k m (.slice A3 n3 c3) (.slice A2 n2 c2) has st top df) 39 (0, 0)) := by rw [hW5]; exact set_obj (i := 2) HX.out.2.1 _
  have HZ5 : Hid (W5.heap[R]? = some (.cells (fsc 0 0 (.slice none 0 0) (.slice none 0 0) false 0 tg0 false) 39 (0, 0))) := Lib.hid (by rw [hW5]; exact set_obj_other (gr_obj HX.out.2.2 HZ.out) HB0.out.2.2 _)
  have HE5 : Hid (SO W5 w.heap.size (.slice A3 n3 c3) E) := Lib.hid (by rw [hW5]; exact own_set_obj HX.out.1 HX.out.2.1 (by decide) _)
  have HG5 : Hid (Gr w W5) := Lib.hid (by rw [hW5]; exact (HG.out.trans HX.out.2.2).setCell HB0.out.1 _)
  have HGL5 : Hid (GV W5 (.slice A2 n2 c2) L) := Lib.hid (by
    have hgk := HGL0.out
    have hkp : Gr w W5 := HG5.out
    exact hgk.gr hkp)
  have HCL := Lib.hid (gclone_any (.slice A2 n2 c2) L W5 HGL5.out (by have h1 : L.length ≤ 1000000 := HFT.out.live; omega))
  have HS5 := Lib.hid hs5
  have p3 : W5.cell? ⟨S, 3, none⟩ = some (.slice A2 n2 c2) := by rw [cell_of_block hs5]; rfl
  rw [← hW5]
  clear hW5 q2 f2 hs5
  go_wp2_with fail
  refine HCL.out.mono ?_
  rintro e w2 ⟨v2, rfl, ho2, g2⟩
  have ho2 : GOw w2 w.heap.size v2 L := ho2.le HG5.out.size
  obtain ⟨A4, c4, hv2, -, -⟩ := own_form ho2
  rw [← HN2.out] at hv2
  subst hv2
  have hs2 := gr_obj g2 HS5.out
  have q3 : w2.cell? ⟨S, 3, none⟩ = some (.slice A2 n2 c2) := by rw [cell_of_block hs2]; rfl
  have f3 := unfrozen_of_block hs2 3
  have HX2 := Lib.hid (And.intro ho2 (And.intro hs2 g2))
  clear ho2 g2 hs2 p3
  go_upto_region 3 with (fail)
  obtain ⟨W6, hW6⟩ : ∃ X, X = w2.setCell ⟨S, 3, none⟩ (.slice A4 n2 c4) := ⟨_, rfl⟩
  have hs6 : W6.heap[S]? = some (.cells (fsc k m (.slice A3 n3 c3) (.slice A4 n2 c4) has st top df) 39 (0, 0)) := by rw [hW6]; exact set_obj (i := 3) HX2.out.2.1 _
  have hz6 : W6.heap[R]? = some (.cells (fsc 0 0 (.slice none 0 0) (.slice none 0 0) false 0 tg0 false) 39 (0, 0)) := by rw [hW6]; exact set_obj_other (gr_obj HX2.out.2.2 HZ5.out) HB0.out.2.2 _
  have he6 : SO W6 w.heap.size (.slice A3 n3 c3) E := by rw [hW6]; exact own_set_obj (HE5.out.gr HX2.out.2.2) HX2.out.2.1 (by decide) _
  have hl6 : GOw W6 w.heap.size (.slice A4 n2 c4) L := by rw [hW6]; exact own_set_obj HX2.out.1 HX2.out.2.1 (by decide) _
  have hg6 : Gr w W6 := by rw [hW6]; exact (HG5.out.trans HX2.out.2.2).setCell HB0.out.1 _
  have HK6 : Hid (CpG w S R (fsc k m (.slice A3 n3 c3) (.slice A4 n2 c4) has st top df) (.slice A3 n3 c3) (.slice A4 n2 c4) E L W6) := Lib.hid ⟨hs6, hz6, he6, hl6, hg6⟩
  have p3 : W6.cell? ⟨S, 3, none⟩ = some (.slice A4 n2 c4) := by rw [cell_of_block hs6]; rfl
  have hn263 : n2 ≤ 9223372036854775807 := by have h1 : L.length ≤ 1000000 := HFT.out.live; have h2 := HN2.out; omega
  rw [← hW6]
  clear hW6 q3 f3 hs6 hz6 he6 hl6 hg6
  go_wp2_with fail
  go_loopw [16] (fun i wr => ∃ j : Nat, j ≤ n2 ∧ i = .int .i64 j ∧ Hid (CpG w S R (fsc k m (.slice A3 n3 c3) (.slice A4 n2 c4) has st top df) (.slice A3 n3 c3) (.slice A4 n2 c4) E L wr)) (fun i _ => n2 - (intOf i).toNat)
  case atStart => exact ⟨0, Nat.zero_le _, rfl, Lib.hid HK6.out⟩
  case round =>
    obtain ⟨j, hj, rfl, hst⟩ := hrel
    rename World => wr
    clear p3
    by_cases hjn : j < n2
    · have hj0 : (0 : Int) ≤ (j : Int) := Int.natCast_nonneg _
      have hjn1 : (j : Int) < (n2 : Int) := by omega
      have hjl : j < L.length := by rw [← HN2.out]; exact hjn
      obtain ⟨g, cc, hvv⟩ := GOw.addr hst.out.l hjl
      injection hvv with h1 h2 h3
      subst h1 h3
      clear h2
      obtain ⟨x, hx⟩ : ∃ x, x = L[j] := ⟨_, rfl⟩
      obtain ⟨a0, a1, a2, a3⟩ := hst.out.l.at_ hjl
      rw [← hx] at a0 a1 a2 a3
      have HXE := Lib.hid hx
      have hxs : x.e.size ≤ 281474976710656 := by rw [hx]; exact HFT.out.tz _ (List.getElem_mem hjl)
      have HCX := Lib.hid (fun w1 => HCS.out x.e hxs w1)
      have HST := Lib.hid hst.out
      obtain ⟨W7, hW7, g7, hq7⟩ := tgbox wr x
      obtain ⟨Q, hQ⟩ : ∃ Q, Q = wr.heap.size := ⟨_, rfl⟩
      rw [← hQ] at hq7
      have HR7 : Hid (CpR w S R Q (fsc k m (.slice A3 n3 c3) (.slice (some ⟨g, 0, none⟩) n2 c4) has st top df) (.slice A3 n3 c3) (.slice (some ⟨g, 0, none⟩) n2 c4) E L x W7) := Lib.hid ⟨hst.out.next g7, hq7⟩
      clear hx hxs hst g7 hq7
      go_upto_region 6 with (fail)
      change Code.wp Tryz.prog _ _ _ (wr.alloc (.cells (tgv x) 37))
      rw [← hW7, ← hQ]
      clear hW7 hQ a0 a1 a2 a3
      have HP3 : Hid (∀ w', CpR w S R Q (fsc k m (.slice A3 n3 c3) (.slice (some ⟨g, 0, none⟩) n2 c4) has st top df) (.slice A3 n3 c3) (.slice (some ⟨g, 0, none⟩) n2 c4) E L x w' → w'.cell? ⟨S, 3, none⟩ = some (.slice (some ⟨g, 0, none⟩) n2 c4)) := Lib.hid (fun w' h => by rw [cell_of_block h.k.s]; rfl)
      refine qTail 8 (fun w' => CpR w S R Q (fsc k m (.slice A3 n3 c3) (.slice (some ⟨g, 0, none⟩) n2 c4) has st top df) (.slice A3 n3 c3) (.slice (some ⟨g, 0, none⟩) n2 c4) E L x w' ∧ w'.cell? ⟨S, 3, none⟩ = some (.slice (some ⟨g, 0, none⟩) n2 c4)) (by kernel_rfl) (by kernel_rfl) ⟨HR7.out.next (Gr.refl _).drew, HP3.out _ (HR7.out.next (Gr.refl _).drew)⟩ ?_
      simp only [List.take_succ_cons, List.take_zero, List.drop_succ_cons, List.drop_zero]
      iterate 5
        refine qTake (by kernel_rfl) ?_
        apply Exists.intro
        refine ⟨fun wq hq => ?_, ?_⟩
        · go_light
          obtain ⟨⟨-, ⟨b0, b1, b2, b3⟩⟩, e3⟩ := hq
          go_simp
          try with_reducible rfl
          done
        try simp only [Act.put, List.setIfInBounds_toArray, List.set_cons_zero, List.set_cons_succ]
      refine qCall (by kernel_rfl) ?_
      apply Exists.intro
      refine ⟨?_, ?_⟩
      · apply Exists.intro
        apply Exists.intro
        refine ⟨fun wq => ?_, fun wq hq => ?_⟩
        · go_light
          go_simp
          exact ⟨rfl, rfl⟩
        · exact (HCX.out wq).mono fun e w'' ⟨he, hg⟩ => ⟨he, hq.1.next hg, hg.cell hq.2⟩
      try simp only [Act.put, List.setIfInBounds_toArray, List.set_cons_zero, List.set_cons_succ]
      iterate 2
        refine qTake (by kernel_rfl) ?_
        apply Exists.intro
        refine ⟨fun wq hq => ?_, ?_⟩
        · go_light
          obtain ⟨⟨-, ⟨b0, b1, b2, b3⟩⟩, e3⟩ := hq
          go_simp
          try with_reducible rfl
          done
        try simp only [Act.put, List.setIfInBounds_toArray, List.set_cons_zero, List.set_cons_succ]
      refine qNil ?_
      intro w8 hC
      have HC := Lib.hid hC.1.k
      clear hC
      obtain ⟨-, -, -, r3⟩ := HC.out.l.at_ hjl
      rw [← HXE.out] at r3
      have fr := HC.out.l.free (j * 4 + 3)
      go_wp2_with fail
      go_roundw
      case rel => exact ⟨j + 1, by omega, by go_num, Lib.hid (by
        have := HC.out.tag hjl
        rw [← HXE.out] at this
        exact this)⟩
      case measure => simp [intOf]; omega
    · obtain rfl : j = n2 := by omega
      have HK := Lib.hid hst.out
      have hsl := hst.out.s
      have p9 : wr.cell? ⟨S, 9, none⟩ = some (.string top.e) := by rw [cell_of_block hsl]; rfl
      have HCT := Lib.hid (fun w1 => HCS.out top.e HFT.out.top w1)
      clear hst hsl
      go_wp2_with fail
      refine (HCT.out _).mono ?_
      rintro e w3 ⟨rfl, g3⟩
      have HK3 := Lib.hid (HK.out.next g3)
      have hs3 := HK3.out.s
      have q9 : w3.cell? ⟨S, 9, none⟩ = some (.string top.e) := by rw [cell_of_block hs3]; rfl
      have f9 := unfrozen_of_block hs3 9
      clear p9 g3 hs3
      go_upto_region 9 with (fail)
      obtain ⟨W4, hW4⟩ : ∃ X, X = w3.setCell ⟨S, 9, none⟩ (.string top.e) := ⟨_, rfl⟩
      have hs4 : W4.heap[S]? = some (.cells (fsc k m (.slice A3 n3 c3) (.slice A4 j c4) has st top df) 39 (0, 0)) := by rw [hW4]; exact set_obj (i := 9) HK3.out.s _
      have hz4 : W4.heap[R]? = some (.cells (fsc 0 0 (.slice none 0 0) (.slice none 0 0) false 0 tg0 false) 39 (0, 0)) := by rw [hW4]; exact set_obj_other HK3.out.z HB0.out.2.2 _
      have HEW : Hid (SO W4 w.heap.size (.slice A3 n3 c3) E) := Lib.hid (by rw [hW4]; exact own_set_obj HK3.out.e HK3.out.s (by decide) _)
      have HLW : Hid (GOw W4 w.heap.size (.slice A4 j c4) L) := Lib.hid (by rw [hW4]; exact own_set_obj HK3.out.l HK3.out.s (by decide) _)
      have HGW : Hid (Gr w W4) := Lib.hid (by rw [hW4]; exact HK3.out.gr.setCell HB0.out.1 _)
      rw [← hW4]
      clear hW4 q9 f9
      go_wp2_with (first | (refine wpList_load_row rfl 39 (.tmp 1) rfl S rfl 39 (fsc k m (.slice A3 n3 c3) (.slice A4 j c4) has st top df) (0, 0) _ hs4 Tryz.underlying39 rfl sinfo ?_) | (refine wpList_store_row rfl 39 (.tmp 2) (.tmp 36) rfl R (fsc k m (.slice A3 n3 c3) (.slice A4 j c4) has st top df) rfl rfl 39 _ hz4 sinfo rfl (fsc_ones _ _ _ _ _ _ _ _ _ _ _ _) ?_))
      have HZF := Lib.hid (setRow_heap W4 R _ (fsc k m (.slice A3 n3 c3) (.slice A4 j c4) has st top df) 39 _ hz4)
      have HF := Lib.hid (fin_rows (fsc k m (.slice A3 n3 c3) (.slice A4 j c4) has st top df) hz4 HGW.out HB0.out.2.1 HEW.out HLW.out)
      clear hs4 hz4
      go_wp2_with fail
      exact bodyPost_ret (results_cell_row Tryz.results45 _ _ R 39 (fsc k m (.slice A3 n3 c3) (.slice A4 j c4) has st top df) (0, 0) _ rfl HZF.out Tryz.underlying39 rfl sinfo) rfl ⟨_, rfl, ⟨_, _, rfl, HF.out.1, HF.out.2.1⟩, HF.out.2.2⟩
end Go.Proofs.YtlihcjlonafohaaGreat
