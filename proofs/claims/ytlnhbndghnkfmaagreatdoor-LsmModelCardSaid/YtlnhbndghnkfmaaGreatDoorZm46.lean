/- Walks: Range: the program's. Plain mathematics of logs: records appended one by one, made safe, and a crash. Mathematics: logs of any prefix on a disk, their records, what is safe of them (written by genki.py). -/
import Derived.Test.YtlnhbndghnkfmaaGreatDoorZm45
import Derived.Test.YtlnhbndghnkfmaaGreatDoorZm05
import Derived.Test.YtlnhbndghnkfmaaGreatDoorZm15
namespace Go.Proofs.YtlnhbndghnkfmaaGreatDoor
open Go.RowKit

/-- What a range asks of a change. -/
def inRg (a b : ByteArray) (c : CR) : Bool := !c.gone && (!lessS c.key a && lessS c.key b)
def pairK (c : CR) : PR := ⟨c.key, c.val⟩
def rgOf (a b : ByteArray) (L : List CR) : List PR := (L.filter (inRg a b)).map pairK
/-- Range, in plain words. -/
noncomputable def rangeS (s : St) (a b : ByteArray) : List PR := rgOf a b (puts [] (tabsC s.files s.tabs ++ s.mem))
theorem rgOf_yes {a b : ByteArray} {L : List CR} {j : Nat} (h : j < L.length) (hy : inRg a b L[j] = true) : rgOf a b (L.take (j + 1)) = rgOf a b (L.take j) ++ [pairK L[j]] := by
  unfold rgOf
  rw [List.take_succ_eq_append_getElem h, List.filter_append, List.map_append]
  simp [hy]
theorem rgOf_no {a b : ByteArray} {L : List CR} {j : Nat} (h : j < L.length) (hy : inRg a b L[j] = false) : rgOf a b (L.take (j + 1)) = rgOf a b (L.take j) := by
  unfold rgOf
  rw [List.take_succ_eq_append_getElem h, List.filter_append, List.map_append]
  simp [hy]
theorem rgOf_len (a b : ByteArray) (L : List CR) : (rgOf a b L).length ≤ L.length := by
  unfold rgOf
  rw [List.length_map]
  exact List.length_filter_le _ _
theorem wpList_push_pr {W : World} {ops : Array Oper} {rest : List Oper} {o : Oper} {a : Act} {Q : Exit → Act → World → Prop} (hgd : o.guard = none) (s x : Operand)
    (ho : o.op = .call { callee := .builtin .append, args := #[s, x], argTypes := #[48, 48] })
    (B : Nat) (v vx : Value) (L M : List PR) (n m : Nat) (hn : n = L.length) (hm : m = M.length) (hs : a.eval s = v) (hown : PO W B v L) (hx : a.eval x = vx) (hxv : PV W vx M) (hlen : (n + m) * 32 ≤ 140737488355328) (hB : B ≤ W.heap.size)
    (h : ∀ A' c' w', PO w' B (.slice A' (n + m) c') (L ++ M) → Kp v.ownBlock W w' → wpList Tryz.prog ops Q rest (a.put o.dst (.slice A' (n + m) c')) w') :
    wpList Tryz.prog ops Q (o :: rest) a W := by
  subst hn hm
  obtain ⟨i0, hi, hz0, hz1, hz2⟩ := info_parts infoPair
  refine wpList_append_sl _ hgd s x 48 ho B 66 i0 _ 2 32 Tryz.underlying48 hi hz0 hz1 hz2 rfl (by decide) v L.length (pcells L) hs hown vx M.length (pcells M) hx
    hxv.sl (pcells_one M) (by unfold maxLen; omega) hlen hB (L.length + M.length) rfl ?_
  intro A' c' w' hown' hgr _
  refine h A' c' w' ?_ hgr
  unfold PO
  rw [List.length_append]
  unfold pcells at hown' ⊢
  rw [List.flatMap_append]
  exact hown'
theorem po_one (W : World) (o : PR) (B : Nat) (hB : B ≤ W.heap.size) : PO (W.alloc (.cells #[.string o.key, .string o.val] 66)) B (.slice (some ⟨W.heap.size, 0, none⟩) 1 1) [o] :=
  ⟨rfl, .inr ⟨W.heap.size, 1, #[.string o.key, .string o.val], rfl, hB, heap_alloc_new W _, Nat.le_refl _, by decide, rfl, rfl⟩⟩
theorem leq_less (a k : ByteArray) : (lessS a k || eqS a k) = !lessS k a := leq_not k a
set_option maxRecDepth 100000 in
set_option maxHeartbeats 4000000 in
theorem lrange_any (v : Value) (s : St) (a b : ByteArray) (w : World) (hv : StV w v s) (hs : StOk s) (htl : s.tabs.length ≤ 100000) (hml : s.mem.length ≤ 100000) (hH : Halves w) :
    Calls Tryz.prog 24 #[v, .string a, .string b] w fun e w' => ∃ u, e = .returned u ∧ PO w' w.heap.size u (rangeS s a b) ∧ Gr w w' := by
  obtain ⟨vF, vM, vT, rfl, hF, hM, hT⟩ := hv
  have HT1 : Hid (∀ w1, Gr w w1 → Calls Tryz.prog 62 #[stval vF vM vT s.gen s.marks] w1 fun e w' => ∃ v, e = .returned v ∧ (CO w' w.heap.size v (tabsC s.files s.tabs) ∧ Gr w1 w')) := Lib.hid (fun w1 q => (tablesOf_any vF vM vT s.gen s.marks s.files s.tabs w1 (hF.gr q) (hT.gr q) hs.fit (hH.gr q) htl).mono (fun e w' h => by
    obtain ⟨v, h1, h2, h3⟩ := h
    exact ⟨_, h1, h2.le q.size, h3⟩))
  have HC1 : Hid (∀ w1, Gr w w1 → Calls Tryz.prog 63 #[vM] w1 fun e w' => ∃ v, e = .returned v ∧ (CO w' w.heap.size v s.mem ∧ Gr w1 w')) := Lib.hid (fun w1 q => (copied_any vM s.mem w1 (hM.gr q) hs.mem hs.mems).mono (fun e w' h => by
    obtain ⟨v, h1, h2, h3⟩ := h
    exact ⟨_, h1, h2.le q.size, h3⟩))
  have HM1 : Hid (∀ W' v (M : List CR), CO W' w.heap.size v M → M.length * 40 ≤ 140737488355328 → Calls Tryz.prog 61 #[v] W' fun e w' => ∃ u, e = .returned u ∧ (CO w' w.heap.size u (puts [] M) ∧ Kp v.ownBlock W' w')) := Lib.hid (fun W' v M h1 h2 => (settled_any v M w.heap.size W' h1 h2).mono (fun e w' h => by
    obtain ⟨v, h1, h2, h3, h4⟩ := h
    exact ⟨_, h1, h2, h3⟩))
  obtain ⟨X, hX⟩ : ∃ X, X = tabsC s.files s.tabs := ⟨_, rfl⟩
  obtain ⟨M, hM'⟩ : ∃ M, M = s.mem := ⟨_, rfl⟩
  have HXL : Hid (X.length ≤ 102400000 ∧ M.length ≤ 100000) := Lib.hid (by
    rw [hX, hM']
    have := tabsC_len s.files s.tabs
    omega)
  obtain ⟨r, hr⟩ : ∃ r, r = rangeS s a b := ⟨_, rfl⟩
  rw [← hr]
  unfold rangeS at hr
  rw [← hX, ← hM'] at hr
  rw [← hX] at HT1
  rw [← hM'] at HC1
  have HR := Lib.hid hr
  unfold stval at HT1 ⊢
  obtain ⟨files, mem, tabs, g, m⟩ := s
  dsimp only at HT1 HC1 ⊢
  obtain ⟨AF, nF, cF, rfl⟩ : ∃ A n c, vF = .slice A n c := by
    obtain ⟨A, c, h, _⟩ := hF
    exact ⟨A, _, c, h⟩
  obtain ⟨AM, nM, cM, rfl⟩ : ∃ A n c, vM = .slice A n c := by
    obtain ⟨A, c, h, _⟩ := hM
    exact ⟨A, _, c, h⟩
  obtain ⟨AT, nT, cT, rfl⟩ : ∃ A n c, vT = .slice A n c := by
    obtain ⟨A, c, h, _⟩ := hT
    exact ⟨A, _, c, h⟩
  clear hF hM hT hs htl hml hH hX hM' hr
  obtain ⟨W, hW⟩ : ∃ W, W = w.alloc (.cells #[.slice AF nF cF, .slice AM nM cM, .slice AT nT cT, .int .i64 (g : Int), .int .i64 (m : Int)] 30) := ⟨_, rfl⟩
  have HG : Hid (Gr w W) := Lib.hid (by rw [hW]; exact gr_box _ _)
  have HO : Hid (W.heap[w.heap.size]? = some (.cells #[.slice AF nF cF, .slice AM nM cM, .slice AT nT cT, .int .i64 (g : Int), .int .i64 (m : Int)] 30 (0, 0))) := Lib.hid (by rw [hW]; exact heap_alloc_new w _)
  go_enter Tryz.func24, Tryz.ntmps24
  go_upto_region 2 with (fail)
  rw [← hW]
  clear hW
  go_cut [16, 17, 18] (fun s16 s17 s18 wx => ∃ A n k, s16 = .slice A n k ∧ s17 = .int .i64 (n : Int) ∧ s18 = .int .i64 0 ∧ n = (puts [] (X ++ M)).length ∧ Hid (CO wx w.heap.size (.slice A n k) (puts [] (X ++ M)) ∧ Gr w wx))
  case first =>
    have d0 := obj_cell (gr_obj (Gr.refl _).drew HO.out) (i := 0) rfl
    have d1 := obj_cell (gr_obj (Gr.refl _).drew HO.out) (i := 1) rfl
    have d2 := obj_cell (gr_obj (Gr.refl _).drew HO.out) (i := 2) rfl
    have d3 := obj_cell (gr_obj (Gr.refl _).drew HO.out) (i := 3) rfl
    have d4 := obj_cell (gr_obj (Gr.refl _).drew HO.out) (i := 4) rfl
    have HGD := Lib.hid (HG.out.trans (Gr.refl _).drew)
    have HOD := Lib.hid (gr_obj (Gr.refl _).drew HO.out)
    go_region_law
      first
      | (refine step_call rfl 62 [.tmp 10] _ rfl [.agg #[.slice AF nF cF, .slice AM nM cM, .slice AT nT cT, .int .i64 (g : Int), .int .i64 (m : Int)]] rfl (cf_tablesOf _) (HT1.out _ (by first | exact HGD.out | exact HG9.out)) ?_
         intro v8 w8 h8
         obtain ⟨A8, k8, rfl, -, -⟩ := own_form h8.1
         have HO8 := Lib.hid h8.1
         have HG8 := Lib.hid ((by first | exact HG9.out.trans h8.2 | exact HGD.out.trans h8.2 : Gr w w8))
         have HOB8 := Lib.hid ((by first | exact gr_obj h8.2 HOB9.out | exact gr_obj h8.2 HOD.out : w8.heap[w.heap.size]? = some (.cells #[.slice AF nF cF, .slice AM nM cM, .slice AT nT cT, .int .i64 (g : Int), .int .i64 (m : Int)] 30 (0, 0))))
         have e1 := obj_cell HOB8.out (i := 1) rfl
         have HX9 : Hid (∀ v M, CO (by first | exact w9 | exact w8) w.heap.size v M → CO w8 w.heap.size v M) := Lib.hid (fun v M h => by first | exact h.gr h8.2 | exact h)
         clear h8)
      | (refine step_call rfl 63 [.tmp 13] _ rfl [.slice AM nM cM] rfl (cf_copied _) (HC1.out _ (by first | exact HGD.out | exact HG8.out)) ?_
         intro v9 w9 h9
         obtain ⟨A9, k9, rfl, -, -⟩ := own_form h9.1
         have HO9 := Lib.hid h9.1
         have HG9 := Lib.hid ((by first | exact HG8.out.trans h9.2 | exact HGD.out.trans h9.2 : Gr w w9))
         have HOB9 := Lib.hid ((by first | exact gr_obj h9.2 HOB8.out | exact gr_obj h9.2 HOD.out : w9.heap[w.heap.size]? = some (.cells #[.slice AF nF cF, .slice AM nM cM, .slice AT nT cT, .int .i64 (g : Int), .int .i64 (m : Int)] 30 (0, 0))))
         have b0 := obj_cell HOB9.out (i := 0) rfl
         have b1 := obj_cell HOB9.out (i := 1) rfl
         have b2 := obj_cell HOB9.out (i := 2) rfl
         have b3 := obj_cell HOB9.out (i := 3) rfl
         have b4 := obj_cell HOB9.out (i := 4) rfl
         have HX8 : Hid (∀ v M, CO (by first | exact w8 | exact w9) w.heap.size v M → CO w9 w.heap.size v M) := Lib.hid (fun v M h => by first | exact h.gr h9.2 | exact h)
         clear h9)
      | (refine step_push_c rfl (.tmp 11) (.tmp 14) rfl w.heap.size (.slice A8 X.length k8) (.slice A9 M.length k9) X M X.length M.length rfl rfl rfl (by first | exact HX8.out _ _ HO8.out | exact HO8.out) rfl (by first | exact (HX9.out _ _ HO9.out).cv | exact HO9.out.cv) (by have := HXL.out; omega) (by first | exact HG9.out.size | exact HG8.out.size) ?_
         intro A4 k4 w4 hown4 hk4
         have HO4 := Lib.hid hown4
         have HG4 : Hid (Gr w w4) := Lib.hid (by first | exact gr_of_grown HG9.out (HX8.out _ _ HO8.out) hk4 HG9.out.size | exact gr_of_grown HG8.out HO8.out hk4 HG8.out.size)
         clear hown4 hk4)
      | (refine step_call rfl 61 [.tmp 15] _ rfl [.slice A4 (X.length + M.length) k4] rfl (cf_settled _) (HM1.out _ _ _ HO4.out (by rw [List.length_append]; have := HXL.out; omega)) ?_
         intro v5 w5 h5
         obtain ⟨A5, k5, rfl, -, -⟩ := own_form h5.1
         have HO5 := Lib.hid h5.1
         have HG5 := Lib.hid (gr_of_grown HG4.out HO4.out h5.2 HG4.out.size)
         clear h5)
    all_goals
      go_wp2
      go_meet
      exact ⟨A5, _, k5, rfl, rfl, rfl, rfl, Lib.hid ⟨HO5.out, HG5.out⟩⟩
  case rest =>
    obtain ⟨AS, n, kS, rfl, rfl, rfl, hn, HC⟩ := hcut
    have HN := Lib.hid hn
    have HNL : Hid (n ≤ 103000000) := Lib.hid (by
      have h1 := puts_len [] (X ++ M)
      have h2 := HXL.out
      rw [List.length_append] at h1
      simp only [List.length_nil] at h1
      omega)
    obtain ⟨S, hS⟩ : ∃ S, S = puts [] (X ++ M) := ⟨_, rfl⟩
    rw [← hS] at HN HC HR
    have hnb := HNL.out
    clear hn hS HT1 HC1 HM1
    go_wp2_with fail
    go_loopg [7, 18] (n + 1) (fun kx s7 s18 wr => ∃ (j : Nat), s18 = .int .i64 (j : Int) ∧ j ≤ n ∧ n - j ≤ kx ∧ Hid (PO wr w.heap.size s7 (rgOf a b (S.take j)) ∧ CO wr w.heap.size (.slice AS n kS) S ∧ Gr w wr))
    case atStart => exact ⟨0, rfl, Nat.zero_le _, by omega, Lib.hid ⟨PO.nil _ _, HC.out.1, HC.out.2⟩⟩
    case round =>
      obtain ⟨j, rfl, hj, hkx, HI⟩ := hrel
      by_cases hlt : j < n
      · have hjS : j < S.length := by rw [← HN.out]; exact hlt
        obtain ⟨gg, cc, hvv⟩ := HI.out.2.1.addr hjS
        injection hvv with h1 h2 h3
        subst h1 h3
        clear h2
        obtain ⟨q0, q1, q2⟩ := HI.out.2.1.at_ hjS
        obtain ⟨f, hf⟩ : ∃ f, f = S[j] := ⟨_, rfl⟩
        rw [← hf] at q0 q1 q2
        have HY : Hid (inRg a b f = true → rgOf a b (S.take (j + 1)) = rgOf a b (S.take j) ++ [pairK f]) := Lib.hid (fun h => by rw [hf] at h ⊢; exact rgOf_yes hjS h)
        have HNO : Hid (inRg a b f = false → rgOf a b (S.take (j + 1)) = rgOf a b (S.take j)) := Lib.hid (fun h => by rw [hf] at h; exact rgOf_no hjS h)
        have HJL : Hid ((rgOf a b (S.take j)).length ≤ n) := Lib.hid (by
          have h1 := rgOf_len a b (S.take j)
          rw [List.length_take] at h1
          omega)
        obtain ⟨Ap, np, kp, hvp, hnp⟩ : ∃ A m k, u7 = .slice A m k ∧ m = (rgOf a b (S.take j)).length := by
          obtain ⟨A, k, h, -, -⟩ := own_form HI.out.1
          exact ⟨A, _, k, h, rfl⟩
        subst hvp
        rw [← hnp] at HJL
        have HNP := Lib.hid hnp
        have hlp : (np + 1) * 32 ≤ 140737488355328 := by have := HJL.out; omega
        obtain ⟨WB, hWB⟩ : ∃ WB, WB = wr.alloc (.cells #[.string f.key, .string f.val, .bool f.gone] 70) := ⟨_, rfl⟩
        have HX : Hid (WB.heap[wr.heap.size]? = some (.cells #[.string f.key, .string f.val, .bool f.gone] 70 (0, 0))) := Lib.hid (by rw [hWB]; exact heap_alloc_new wr _)
        have HGB : Hid (Gr wr WB) := Lib.hid (by rw [hWB]; exact gr_box _ _)
        have x0 := obj_cell HX.out (i := 0) rfl
        have x1 := obj_cell HX.out (i := 1) rfl
        have x2 := obj_cell HX.out (i := 2) rfl
        have u0 : (0 : Int) ≤ (j : Int) := by omega
        have u1 : (j : Int) < (n : Int) := by omega
        obtain ⟨y1, hy1⟩ : ∃ y, y = Go.Op.bytesLess a.toList f.key.toList := ⟨_, rfl⟩
        obtain ⟨y2, hy2⟩ : ∃ y, y = (a.toList == f.key.toList) := ⟨_, rfl⟩
        obtain ⟨y3, hy3⟩ : ∃ y, y = Go.Op.bytesLess f.key.toList b.toList := ⟨_, rfl⟩
        have HIN : Hid (inRg a b f = (!f.gone && ((y1 || y2) && y3))) := Lib.hid (by
          unfold inRg
          rw [← leq_less, hy1, hy2, hy3]
          rfl)
        have t1 := hy1.symm
        have t2 := hy2.symm
        have t3 := hy3.symm
        clear hf hnp hjS hy1 hy2 hy3
        go_upto_region 5 with (fail)
        rw [← hWB]
        clear hWB q0 q1 q2
        go_cut [36] (fun s36 wx => s36 = .bool (inRg a b f) ∧ wx = WB)
        case first =>
          cases y1 <;> cases y2 <;> cases y3
          all_goals
            rcases hg : f.gone with _ | _
            all_goals
              rw [hg] at x2
              go_wp2
              go_meet
              exact ⟨by rw [HIN.out, hg]; rfl, rfl⟩
        case rest =>
          obtain ⟨rfl, rfl⟩ := hcut
          clear t1 t2 t3
          rcases hq : inRg a b f with _ | _
          · have HR2 := Lib.hid (HNO.out hq)
            clear hq
            go_wp2_with fail
            go_roundg (n - (j + 1))
            case measure => omega
            case rel => exact ⟨j + 1, by go_num, by omega, Nat.le_refl _, Lib.hid ⟨by rw [HR2.out]; exact HI.out.1.gr HGB.out, HI.out.2.1.gr HGB.out, HI.out.2.2.trans HGB.out⟩⟩
          · have HR2 := Lib.hid (HY.out hq)
            have HZ : Hid (w.heap.size ≤ (wc.alloc (.cells #[.string f.key, .string f.val] 66)).heap.size) := Lib.hid (Nat.le_trans (HI.out.2.2.trans HGB.out).size (gr_box _ _).size)
            have HPV := Lib.hid (po_one wc (pairK f) 0 (Nat.zero_le _)).pv
            have HP6 := Lib.hid ((HI.out.1.gr HGB.out).gr (gr_box wc (.cells #[.string f.key, .string f.val] 66)))
            clear hq
            go_wp2_with (at_builtin; refine wpList_push_pr rfl (.tmp 37) (.tmp 43) rfl w.heap.size (.slice Ap np kp) (.slice (some ⟨wc.heap.size, 0, none⟩) 1 1) (rgOf a b (S.take j)) [pairK f] np 1 HNP.out rfl rfl HP6.out rfl HPV.out hlp HZ.out ?_; intro A8 k8 w8 hown8 hk8; have HO8 := Lib.hid hown8; have HK8 := Lib.hid hk8; clear hown8 hk8)
            go_roundg (n - (j + 1))
            case measure => omega
            case rel =>
              have hg6 := HGB.out.trans (gr_box wc (.cells #[.string f.key, .string f.val] 66))
              exact ⟨j + 1, by go_num, by omega, Nat.le_refl _, Lib.hid ⟨by rw [HR2.out]; exact HO8.out, own_past (HI.out.2.1.gr hg6) HP6.out (by decide) HK8.out, gr_of_grown (HI.out.2.2.trans hg6) HP6.out HK8.out (HI.out.2.2.trans hg6).size⟩⟩
      · have hjn : rgOf a b (S.take j) = r := by rw [List.take_of_length_le (by rw [← HN.out]; omega), HR.out]
        have HJ := Lib.hid hjn
        clear hjn
        go_wp2_with fail
        go_ret
        exact ⟨_, rfl, by rw [← HJ.out]; exact HI.out.1, HI.out.2.2⟩
end Go.Proofs.YtlnhbndghnkfmaaGreatDoor
namespace Go.Proofs.YtlnhbndghnkfmaaGreatDoor

/-- How many records are safe. -/
def safeC : List F → Nat
  | [] => 0
  | [f] => (scanAll f.kept.data.toList).length
  | f :: g :: r => (recsF f).length + safeC (g :: r)
theorem safeC_snoc (f : F) : ∀ Y : List F, safeC (Y ++ [f]) = (Y.flatMap recsF).length + (scanAll f.kept.data.toList).length
  | [] => by simp [safeC]
  | [g] => by simp [safeC]
  | g :: h :: r => by
    have := safeC_snoc f (h :: r)
    show (recsF g).length + safeC (h :: r ++ [f]) = _
    have e : (g :: h :: r).flatMap recsF = recsF g ++ (h :: r).flatMap recsF := List.flatMap_cons
    rw [this, e, List.length_append]
    omega
theorem fbytes_kept (f : F) : f.kept.data.toList = (fbytes f).take f.kept.size := by
  unfold fbytes
  rw [append_data, size_list, List.take_left]
theorem kept_few (f : F) : (scanAll f.kept.data.toList).length ≤ (recsF f).length := by
  rw [fbytes_kept]
  exact (scan_prefix (fbytes f) f.kept.size).length_le
theorem fine_run {L L' : List F} {ops : List O} {n : Nat} (h : run L ops = (L', n, 0)) (hf : Fit L) : Fit L' := by
  have := run_fit (ops := ops) hf
  rw [h] at this
  exact this
end Go.Proofs.YtlnhbndghnkfmaaGreatDoor
namespace Go.Proofs.YtlnhbndghnkfmaaGreatDoor

/-- The disk behind some records, of which s at least are safe. -/
structure KL (p : ByteArray) (L X : List F) (R : List (List UInt8)) (s : Nat) : Prop where
  log : IsLog L p X
  gap : ∀ j, X.length < j → segO L p j = none
  whole : ∀ f ∈ X, ¬ tornF f
  recs : X.flatMap recsF = R
  firm : ∀ i (hi : i + 1 < X.length), X[i].loose = ⟨#[]⟩
  safe : s ≤ safeC X
  nd : Dist L
  size : ∀ f ∈ L, f.size ≤ 1048576
  len : L.length ≤ 64
  fit : Fit L
theorem kl_start (p : ByteArray) : KL p [] [] [] 0 where
  log := ⟨fun i hi => absurd hi (Nat.not_lt_zero _), rfl⟩
  gap := fun j _ => by unfold segO; split <;> rfl
  whole := fun f hf => by cases hf
  recs := rfl
  firm := fun i hi => absurd hi (Nat.not_lt_zero _)
  safe := Nat.le_refl _
  nd := List.nodup_nil
  size := fun f hf => by cases hf
  len := Nat.zero_le _
  fit := fun f hf => by cases hf
theorem kl_sync {p : ByteArray} {L X : List F} {R : List (List UInt8)} {s : Nat} (hp : prefixB p = true) (h : KL p L X R s) : ∃ L' X', run L (syncPlan L p) = (L', (syncPlan L p).length, 0) ∧ KL p L' X' R R.length := by
  have hn := h.log.segs.2
  have hfew := h.log.few.1
  rcases List.eq_nil_or_concat X with hX | ⟨Y, f, hX⟩
  · subst hX
    have hpl : syncPlan L p = [] := by unfold syncPlan; rw [hn]; rfl
    rw [hpl]
    refine ⟨L, [], rfl, ⟨h.log, h.gap, h.whole, h.recs, h.firm, ?_, h.nd, h.size, h.len, h.fit⟩⟩
    rw [← h.recs]
    exact Nat.le_refl _
  · rw [List.concat_eq_append] at hX
    subst hX
    have hl : ∀ x : F, (Y ++ [x]).length = Y.length + 1 := fun x => by rw [List.length_append, List.length_singleton]
    rw [hl] at hn hfew
    have hpl : syncPlan L p = [syncO p Y.length] := by unfold syncPlan; rw [hn, if_neg (by omega), Nat.add_sub_cancel]
    have hlkf : lk L (nameW p Y.length) = some f := by
      rw [← segO_lk (by omega), h.log.at_ Y.length (by rw [hl]; omega), List.getElem_append_right (Nat.le_refl _)]
      simp
    obtain ⟨L', hst, hnow, hfine⟩ := step_syncO hp hlkf
    have hrun : run L (syncPlan L p) = (L', (syncPlan L p).length, 0) := by rw [hpl]; exact run_one hst
    have hby : fbytes ⟨f.name, f.kept ++ f.loose, ⟨#[]⟩⟩ = fbytes f := by unfold fbytes; rw [append_nil]
    have hre : recsF ⟨f.name, f.kept ++ f.loose, ⟨#[]⟩⟩ = recsF f := by unfold recsF; rw [hby]
    have hrec := h.recs
    rw [List.flatMap_append, List.flatMap_singleton] at hrec
    refine ⟨L', Y ++ [⟨f.name, f.kept ++ f.loose, ⟨#[]⟩⟩], hrun, ⟨h.log.put hnow, fun j hj => ?_, fun g hg => ?_, ?_, fun i hi => ?_, ?_, hfine.nd h.nd, hfine.size h.size, by have := hfine.len; have := h.len; omega, fine_run hrun h.fit⟩⟩
    · rw [hl] at hj
      rw [now_gap hnow (by omega) (by omega)]
      exact h.gap j (by rw [hl]; exact hj)
    · rcases List.mem_append.1 hg with h1 | h1
      · exact h.whole g (List.mem_append.2 (.inl h1))
      · rw [List.mem_singleton.1 h1]
        unfold tornF
        rw [hre, hby]
        exact h.whole f (by simp)
    · rw [List.flatMap_append, List.flatMap_singleton, hre]
      exact hrec
    · rw [hl] at hi
      rw [List.getElem_append_left (by omega)]
      have := h.firm i (by rw [hl]; exact hi)
      rw [List.getElem_append_left (by omega)] at this
      exact this
    · rw [safeC_snoc, ← hrec, List.length_append]
      exact Nat.le_refl _
theorem kl_append {p : ByteArray} {L X : List F} {R : List (List UInt8)} {s : Nat} {record : ByteArray} (hp : prefixB p = true) (h : KL p L X R s) (hr : record.size ≤ 65536) :
    (appendPlan L p record).2 = 0 ∧ ((run L (appendPlan L p record).1).2.2 = 4 ∨ ∃ L' X', run L (appendPlan L p record).1 = (L', (appendPlan L p record).1.length, 0) ∧ KL p L' X' (R ++ [record.data.toList]) s) := by
  rcases grow hp h.log h.gap hr with ⟨_, h6⟩ | ⟨h0, hg⟩
  · have := h.log.few.2
    have := h.len
    omega
  · refine ⟨h0, ?_⟩
    rcases hg with h4 | ⟨L', X', hrun, hlog, hgr, hfine, hgap⟩
    · exact .inl h4
    · obtain ⟨hw, hre⟩ := grown_recs hr h.whole hgr
      refine .inr ⟨L', X', hrun, ⟨hlog, hgap, hw, by rw [hre, h.recs], fun i hi => ?_, ?_, hfine.nd h.nd, hfine.size h.size, by have := hfine.len; have := h.len; omega, fine_run hrun h.fit⟩⟩
      · have hfirm := h.firm
        cases hgr with
        | first => exact absurd hi (by simp)
        | fits Y f _ =>
          rw [List.length_append, List.length_singleton] at hi
          have := hfirm i (by rw [List.length_append, List.length_singleton]; exact hi)
          rw [List.getElem_append_left (by omega)] at this ⊢
          exact this
        | next Y f =>
          rw [List.length_append] at hi
          simp only [List.length_cons, List.length_nil] at hi
          rcases Nat.lt_or_ge i Y.length with e | e
          · have := hfirm i (by rw [List.length_append, List.length_singleton]; omega)
            rw [List.getElem_append_left e] at this ⊢
            exact this
          · obtain rfl : i = Y.length := by omega
            rw [List.getElem_append_right (Nat.le_refl _)]
            simp
      · have hsafe := h.safe
        cases hgr with
        | first => exact Nat.le_trans hsafe (Nat.zero_le _)
        | fits Y f _ =>
          rw [safeC_snoc] at hsafe ⊢
          exact hsafe
        | next Y f =>
          rw [safeC_snoc] at hsafe
          have e : Y ++ [⟨f.name, f.kept ++ f.loose, ⟨#[]⟩⟩, ⟨nameW p (Y.length + 1), ⟨#[]⟩, frameB record⟩] = (Y ++ [⟨f.name, f.kept ++ f.loose, ⟨#[]⟩⟩]) ++ [⟨nameW p (Y.length + 1), ⟨#[]⟩, frameB record⟩] := by rw [List.append_assoc]; rfl
          have hre2 : recsF ⟨f.name, f.kept ++ f.loose, ⟨#[]⟩⟩ = recsF f := by unfold recsF fbytes; rw [append_nil]
          rw [e, safeC_snoc, List.flatMap_append, List.flatMap_singleton, hre2, List.length_append]
          have := kept_few f
          omega

end Go.Proofs.YtlnhbndghnkfmaaGreatDoor
