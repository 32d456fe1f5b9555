/- Walks: drafts, the program's: mend, sync, answer, draftOf. Walks: drafts, the program's: what a call answers, a store as a draft. -/
import Derived.Test.YtlnhbndghnkfmaaGreatDoorZm27
import Derived.Test.YtlnhbndghnkfmaaGreatDoorZm16
import Derived.Test.YtlnhbndghnkfmaaGreatDoorZm15
import Derived.BigFrame
namespace Go.Proofs.YtlnhbndghnkfmaaGreatDoor
open Go.RowKit

theorem fitO_syncP {L : List F} {p : ByteArray} (hp : p.size ≤ 1000) : ∀ o ∈ syncPlan L p, FitO o := by
  intro o ho
  unfold syncPlan at ho
  split at ho
  · cases ho
  · rw [List.mem_singleton.1 ho]
    exact fitO_sync hp _
set_option maxRecDepth 100000 in
set_option maxHeartbeats 2000000 in
theorem sync_m (B bd : Nat) (vF vM vT vD : Value) (L : List F) (M : List CR) (T : List ByteArray) (g m : Nat) (D : List O) (p : ByteArray) (w : World) (hD : DRow w B bd vF vM vT vD L M T g m D) (hp : prefixB p = true) (hf : Fit L) (hlen : L.length * 48 ≤ 140737488355328) (hpl : (D.length + 1) * 48 ≤ 140737488355328) (hB : B ≤ w.heap.size) :
    Calls Tryz.prog 85 #[.pointer (some ⟨bd, 0, none⟩), .string p] w fun e w' => RetDoM B bd vM vT vD L M T g m D (syncPlan L p) w e w' := by
  have hps := prefix_size hp
  have hsl : (syncPlan L p).length ≤ 1 := by
    unfold syncPlan
    split
    · exact Nat.zero_le _
    · exact Nat.le_refl _
  have H1 := Lib.hid (sync_yes vF L p w hD.files.fv hp hf hlen)
  have H2 := Lib.hid (fun w1 vP (q : Gr w w1) (hP : OO w1 w.heap.size vP (syncPlan L p)) => do_m B bd vF vM vT vD vP L M T g m D (syncPlan L p) w1 (hD.gr q) w.heap.size hP hf (fitO_syncP (by omega)) hlen (by omega) (by have := q.size; omega))
  unfold RetPlan at H1
  obtain ⟨AF, cF, rfl, -, -⟩ := own_form hD.files
  have c0 := obj_cell hD.obj (i := 0) rfl
  have HSZ := Lib.hid hB
  obtain ⟨er, her⟩ : ∃ x, x = (run L (syncPlan L p)).2.2 := ⟨_, rfl⟩
  unfold RetDoM at H2 ⊢
  rw [← her] at H2 ⊢
  clear hD hf hlen hpl hsl her hB
  go_enter Tryz.func85, Tryz.ntmps85
  go_wp2_with fail
  refine H1.out.mono ?_
  rintro e w1 ⟨v1, rfl, ho1, g1⟩
  obtain ⟨A1, k1, rfl, -, -⟩ := own_form ho1
  have H3 := Lib.hid (H2.out w1 _ g1 ho1)
  have HG1 := Lib.hid g1
  clear ho1 g1 c0
  go_wp2_with fail
  refine H3.out.mono ?_
  rintro e w2 ⟨rfl, h2, k2⟩
  have HK := Lib.hid ((KS.of_gr HG1.out).trans k2 (fun _ _ h => h))
  have HR : Hid (er = 0 → ∃ vF' vD', DRow w2 B bd vF' vM vT vD' (run L (syncPlan L p)).1 M T g m (D ++ syncPlan L p) ∧ Moves w vD vD') := Lib.hid (fun h => by
    obtain ⟨a, b, c, d⟩ := h2 h
    exact ⟨a, b, c, d.imp id (fun q k hk => by have := q k hk; have := HG1.out.size; omega)⟩)
  clear h2 k2
  go_wp2_with fail
  go_ret
  exact ⟨rfl, HR.out, HK.out⟩
/-- What mending a log answers. -/
def RetMend (B bd : Nat) (vM vT vD : Value) (L : List F) (M : List CR) (T : List ByteArray) (g m : Nat) (D : List O) (R : List ByteArray) (P : List O) (w : World) (e : Ending) (w' : World) : Prop :=
  ∃ vR, e = .returned (.tuple #[vR, .int .i64 ((run L P).2.2 : Int)]) ∧ SO w' w.heap.size vR R ∧ ((run L P).2.2 = 0 → ∃ vF' vD', DRow w' B bd vF' vM vT vD' (run L P).1 M T g m (D ++ P) ∧ Moves w vD vD') ∧ KS (fun k => k = bd ∨ vD.ownBlock = some k) w w'
theorem own_lt {w : World} {B size n : Nat} {t : TypeId} {v : Value} {xs : List Value} (h : w.ownsRow B t size v n xs) {b : Nat} (hb : v.ownBlock = some b) : b < w.heap.size ∧ B ≤ b := by
  have := h.lt b hb
  omega
set_option maxRecDepth 100000 in
set_option maxHeartbeats 2000000 in
theorem mend_m (B bd : Nat) (vF vM vT vD : Value) (L : List F) (M : List CR) (T : List ByteArray) (g m : Nat) (D : List O) (p : ByteArray) (w : World) (hD : DRow w B bd vF vM vT vD L M T g m D) (hp : prefixB p = true) (hf : Fit L) (hsm : ∀ f ∈ segL L p, f.size ≤ 1048576) (hlen : L.length * 48 ≤ 140737488355328)
    (hpl : (D.length + (openW L p).2.length) * 48 ≤ 140737488355328) (hB : B ≤ w.heap.size) (hH : Halves w) :
    Calls Tryz.prog 70 #[.pointer (some ⟨bd, 0, none⟩), .string p] w fun e w' => RetMend B bd vM vT vD L M T g m D ((openW L p).1.map bs) (openW L p).2 w e w' := by
  have hps := prefix_size hp
  have h1 := open_any vF L p w hD.files.fv (by omega) hf hsm hlen hH
  have e : openR L p = ((openW L p).1, (openW L p).2, 0) := by unfold openR; rw [hp]; rfl
  rw [e] at h1
  unfold RetOpen at h1
  have hfo := fitO_open (p := p) (L := L) (by omega) hsm
  obtain ⟨R, hR⟩ : ∃ R, R = (openW L p).1.map bs := ⟨_, rfl⟩
  obtain ⟨P, hP⟩ : ∃ P, P = (openW L p).2 := ⟨_, rfl⟩
  rw [← hP] at h1 hfo hpl ⊢
  rw [← hR] at h1 ⊢
  have H1 := Lib.hid h1
  have H2 := Lib.hid (fun w1 vP (q : Gr w w1) (hP : OO w1 w.heap.size vP P) => do_m B bd vF vM vT vD vP L M T g m D P w1 (hD.gr q) w.heap.size hP hf hfo hlen (by omega) (by have := q.size; omega))
  obtain ⟨AF, cF, rfl, -, -⟩ := own_form hD.files
  have c0 := obj_cell hD.obj (i := 0) rfl
  obtain ⟨er, her⟩ : ∃ x, x = (run L P).2.2 := ⟨_, rfl⟩
  unfold RetDoM at H2
  unfold RetMend
  rw [← her] at H2 ⊢
  have HNB : Hid (∀ b, vD.ownBlock = some b → b < w.heap.size) := Lib.hid (fun b hb => (own_lt hD.ops hb).1)
  have hbl : bd < w.heap.size := (Array.getElem?_eq_some_iff.1 hD.obj).1
  clear hD hf hsm hlen hpl hfo hR hP her e h1 hH
  go_enter Tryz.func70, Tryz.ntmps70
  go_wp2_with fail
  refine H1.out.mono ?_
  rintro e w1 ⟨v1, v2, rfl, hr1, ho1, g1⟩
  obtain ⟨A1, k1, rfl, -, -⟩ := own_form ho1
  obtain ⟨AR, kR, rfl, -, -⟩ := own_form hr1
  obtain ⟨nR, hnR⟩ : ∃ n, n = R.length := ⟨_, rfl⟩
  rw [← hnR] at hr1 ⊢
  have H3 := Lib.hid (H2.out w1 _ g1 ho1)
  have HG1 := Lib.hid g1
  have HR1 : Hid (SO w1 w.heap.size (.slice AR nR kR) R) := Lib.hid hr1
  clear ho1 g1 c0 hr1 hnR
  go_wp2_with fail
  refine H3.out.mono ?_
  rintro e w2 ⟨rfl, h2, k2⟩
  have HK := Lib.hid ((KS.of_gr HG1.out).trans k2 (fun _ _ h => h))
  have HR : Hid (er = 0 → ∃ vF' vD', DRow w2 B bd vF' vM vT vD' (run L P).1 M T g m (D ++ P) ∧ Moves w vD vD') := Lib.hid (fun h => by
    obtain ⟨a, b, c, d⟩ := h2 h
    exact ⟨a, b, c, d.imp id (fun q k hk => by have := q k hk; have := HG1.out.size; omega)⟩)
  have HR2 : Hid (SO w2 w.heap.size (.slice AR nR kR) R) := Lib.hid (own_ks HR1.out k2 (fun b hb hs => by
    have h3 := (own_lt HR1.out hb).2
    rcases hs with hs | hs
    · omega
    · have := HNB.out b hs
      omega))
  clear h2 k2
  go_wp2_with fail
  go_ret2
  exact ⟨_, rfl, HR2.out, HR.out, HK.out⟩
end Go.Proofs.YtlnhbndghnkfmaaGreatDoor
namespace Go.Proofs.YtlnhbndghnkfmaaGreatDoor
open Go.RowKit

/-- The zero store. -/
def stzero : Value := .agg #[.slice none 0 0, .slice none 0 0, .slice none 0 0, .int .i64 0, .int .i64 0]
set_option maxRecDepth 100000 in
set_option maxHeartbeats 1000000 in
theorem answer_no (p : Value) (er : Nat) (he : er ≠ 0) (w : World) :
    Calls Tryz.prog 36 #[p, .int .i64 (er : Int)] w fun e w' => e = .returned (.tuple #[stzero, .slice none 0 0, .int .i64 (er : Int)]) ∧ Gr w w' := by
  have t0 : ((er : Int) == 0) = false := by rw [beq_eq_false_iff_ne]; omega
  clear he
  go_enter Tryz.func36, Tryz.ntmps36
  go_wp2_with fail
  refine bodyPost_ret (v := .tuple #[stzero, .slice none 0 0, .int .i64 (er : Int)]) (by unfold stzero; simp [results, Tryz.results36, go_sem]) rfl ⟨rfl, gr_box _ _⟩
set_option maxRecDepth 100000 in
set_option maxHeartbeats 2000000 in
theorem answer_yes (B bd : Nat) (vF vM vT vD : Value) (L : List F) (M : List CR) (T : List ByteArray) (g m : Nat) (D : List O) (w : World) (hD : DRow w B bd vF vM vT vD L M T g m D) :
    Calls Tryz.prog 36 #[.pointer (some ⟨bd, 0, none⟩), .int .i64 0] w fun e w' => e = .returned (.tuple #[stval vF vM vT g m, vD, .int .i64 0]) ∧ Gr w w' := by
  obtain ⟨AF, cF, rfl, -, -⟩ := own_form hD.files
  obtain ⟨AM, cM, rfl, -, -⟩ := own_form hD.mem
  obtain ⟨AT, cT, rfl, -, -⟩ := own_form hD.tabs
  obtain ⟨AD, cD, rfl, -, -⟩ := own_form hD.ops
  have hdl : bd < w.heap.size := (Array.getElem?_eq_some_iff.1 hD.obj).1
  obtain ⟨W, hW⟩ : ∃ W, W = w.alloc (.cells #[.slice none 0 0, .slice none 0 0, .slice none 0 0, .int .i64 0, .int .i64 0] 30) := ⟨_, rfl⟩
  have hgW : Gr w W := by rw [hW]; exact gr_box _ _
  have hR : W.heap[w.heap.size]? = some (.cells #[.slice none 0 0, .slice none 0 0, .slice none 0 0, .int .i64 0, .int .i64 0] 30 (0, 0)) := by rw [hW]; exact heap_alloc_new w _
  have hd := gr_obj hgW hD.obj
  go_enter Tryz.func36, Tryz.ntmps36
  go_upto_region 3 with (fail)
  rw [← hW]
  have HG := Lib.hid hgW
  clear hW hD hgW
  have c0 := obj_cell hd (i := 0) rfl
  have c1 := obj_cell hd (i := 1) rfl
  have c2 := obj_cell hd (i := 2) rfl
  have c3 := obj_cell hd (i := 3) rfl
  have c4 := obj_cell hd (i := 4) rfl
  have c5 := obj_cell hd (i := 5) rfl
  have r0 := obj_cell hR (i := 0) rfl
  have r1 := obj_cell hR (i := 1) rfl
  have r2 := obj_cell hR (i := 2) rfl
  have r3 := obj_cell hR (i := 3) rfl
  have r4 := obj_cell hR (i := 4) rfl
  have z0 := obj_free (i := 0) hR
  have z1 := obj_free (i := 1) hR
  have z2 := obj_free (i := 2) hR
  have z3 := obj_free (i := 3) hR
  have z4 := obj_free (i := 4) hR
  have HGR : Hid (∀ v0 v1 v2 v3 v4, Gr w (five W.drew w.heap.size v0 v1 v2 v3 v4)) := Lib.hid (fun v0 v1 v2 v3 v4 => gr_five (HG.out.trans (Gr.refl _).drew) (Nat.le_refl _) v0 v1 v2 v3 v4)
  clear hd hR
  unfold five at HGR
  go_region
  all_goals
    go_wp2
    refine bodyPost_ret (v := .tuple #[stval _ _ _ g m, .slice AD D.length cD, .int .i64 0]) (by unfold stval; simp [results, Tryz.results36, go_sem, r0, r1, r2, r3, r4]) rfl ⟨rfl, HGR.out _ _ _ _ _⟩
/-- A store as a draft: its value. -/
def RetDr6 (L : List F) (M : List CR) (T : List ByteArray) (g m : Nat) (w : World) (e : Ending) (w' : World) : Prop :=
  ∃ vF vM vT, e = .returned (.agg #[vF, vM, vT, .int .i64 (g : Int), .int .i64 (m : Int), .slice none 0 0]) ∧ FO w' w.heap.size vF L ∧ CO w' w.heap.size vM M ∧ SO w' w.heap.size vT T ∧ Gr w w'
set_option maxRecDepth 100000 in
set_option maxHeartbeats 2000000 in
theorem draftOf_any (vF vM vT : Value) (g m : Nat) (L : List F) (M : List CR) (T : List ByteArray) (w : World) (hF : FV w vF L) (hM : CV w vM M) (hT : SV w vT T) (hf : Fit L) (hFl : L.length * 48 ≤ 140737488355328) (hMl : M.length * 40 ≤ 140737488355328) (hTl : T.length * 16 ≤ 140737488355328)
    (hMm : ∀ c ∈ M, c.key.size ≤ 281474976710656 ∧ c.val.size ≤ 281474976710656) (hTm : ∀ s ∈ T, s.size ≤ 281474976710656) :
    Calls Tryz.prog 35 #[stval vF vM vT g m] w fun e w' => RetDr6 L M T g m w e w' := by
  have H1 := Lib.hid (fun w1 (q : Gr w w1) => scopy_any vF vM vT g m L M T w1 (hF.gr q) (hM.gr q) (hT.gr q) hf hFl hMl hTl hMm hTm)
  obtain ⟨AF, nF, cF, rfl⟩ : ∃ A n c, vF = .slice A n c := by
    obtain ⟨A, c, h, _⟩ := hF
    exact ⟨A, _, c, h⟩
  obtain ⟨AM, nM, cM, rfl⟩ : ∃ A n c, vM = .slice A n c := by
    obtain ⟨A, c, h, _⟩ := hM
    exact ⟨A, _, c, h⟩
  obtain ⟨AT, nT, cT, rfl⟩ : ∃ A n c, vT = .slice A n c := by
    obtain ⟨A, c, h, _⟩ := hT
    exact ⟨A, _, c, h⟩
  clear hF hM hT hf hFl hMl hTl hMm hTm
  unfold stval at H1 ⊢
  obtain ⟨W, hW⟩ : ∃ W, W = (w.alloc (.cells #[.slice AF nF cF, .slice AM nM cM, .slice AT nT cT, .int .i64 (g : Int), .int .i64 (m : Int)] 30)).alloc (.cells #[.slice none 0 0, .slice none 0 0, .slice none 0 0, .int .i64 0, .int .i64 0, .slice none 0 0] 74) := ⟨_, rfl⟩
  have hgW : Gr w W := by rw [hW]; exact (gr_box _ _).alloc _
  have hR : W.heap[w.heap.size + 1]? = some (.cells #[.slice none 0 0, .slice none 0 0, .slice none 0 0, .int .i64 0, .int .i64 0, .slice none 0 0] 74 (0, 0)) := by
    rw [hW]
    have := heap_alloc_new (w.alloc (.cells #[.slice AF nF cF, .slice AM nM cM, .slice AT nT cT, .int .i64 (g : Int), .int .i64 (m : Int)] 30)) (.cells #[.slice none 0 0, .slice none 0 0, .slice none 0 0, .int .i64 0, .int .i64 0, .slice none 0 0] 74)
    simpa using this
  go_enter Tryz.func35, Tryz.ntmps35
  go_wp2_with fail
  rw [← hW]
  clear hW
  refine (H1.out _ hgW).mono ?_
  rintro e w1 ⟨v1, v2, v3, rfl, ho1, ho2, ho3, g1⟩
  obtain ⟨A1, k1, rfl, -, -⟩ := own_form ho1
  obtain ⟨A2, k2, rfl, -, -⟩ := own_form ho2
  obtain ⟨A3, k3, rfl, -, -⟩ := own_form ho3
  have hR1 := gr_obj g1 hR
  have r0 := obj_cell hR1 (i := 0) rfl
  have r1 := obj_cell hR1 (i := 1) rfl
  have r2 := obj_cell hR1 (i := 2) rfl
  have r3 := obj_cell hR1 (i := 3) rfl
  have r4 := obj_cell hR1 (i := 4) rfl
  have r5 := obj_cell hR1 (i := 5) rfl
  have z0 := obj_free (i := 0) hR1
  have z1 := obj_free (i := 1) hR1
  have z2 := obj_free (i := 2) hR1
  have z3 := obj_free (i := 3) hR1
  have z4 := obj_free (i := 4) hR1
  have z5 := obj_free (i := 5) hR1
  have HB : Hid (BoxAt w1 (w.heap.size + 1) 74) := Lib.hid ⟨_, hR1⟩
  have HG := Lib.hid (hgW.trans g1)
  have HO := Lib.hid (And.intro (ho1.le hgW.size) (And.intro (ho2.le hgW.size) (ho3.le hgW.size)))
  clear hR hR1 ho1 ho2 ho3 g1 hgW
  unfold stval
  go_wp2_with fail
  refine bodyPost_ret (v := .agg #[.slice A1 L.length k1, .slice A2 M.length k2, .slice A3 T.length k3, .int .i64 (g : Int), .int .i64 (m : Int), .slice none 0 0]) (by simp [results, Tryz.results35, go_sem, r0, r1, r2, r3, r4, r5]) rfl ⟨_, _, _, rfl, ?_, ?_, ?_, ?_⟩
  · exact own_box (own_five HO.out.1 HB.out (by decide) _ _ _ _ _) ((((((HB.out.set _ _ _).set _ _ _).set _ _ _).set _ _ _).set _ _ _)) (by decide) _ _
  · exact own_box (own_five HO.out.2.1 HB.out (by decide) _ _ _ _ _) ((((((HB.out.set _ _ _).set _ _ _).set _ _ _).set _ _ _).set _ _ _)) (by decide) _ _
  · exact own_box (own_five HO.out.2.2 HB.out (by decide) _ _ _ _ _) ((((((HB.out.set _ _ _).set _ _ _).set _ _ _).set _ _ _).set _ _ _)) (by decide) _ _
  · exact Below.setCell (gr_five HG.out (Nat.le_succ _) _ _ _ _ _) (p := ⟨w.heap.size + 1, 5, none⟩) (Nat.le_succ _) _
end Go.Proofs.YtlnhbndghnkfmaaGreatDoor
