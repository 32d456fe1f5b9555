/- Walks: a batch is written, the program's: the walk. Walks: a table is kept, the program's. -/
import Derived.Test.YtlnhbndghnkfmaaGreatDoorZm35
import Derived.Test.YtlnhbndghnkfmaaGreatDoorZm07
namespace Go.Proofs.YtlnhbndghnkfmaaGreatDoor
open Go.RowKit

theorem fitO_append {L : List F} {p rc : ByteArray} (hp : p.size ≤ 1000) : ∀ o ∈ (appendPlan L p rc).1, FitO o := by
  intro o ho
  unfold appendPlan at ho
  split at ho
  · cases ho
  · rename_i hr
    have hw : ∀ i, FitO (writeO p i (frameB rc)) := fun i => fitO_write hp i (by rw [frameB_size]; omega)
    split at ho
    · rw [List.mem_singleton.1 ho]; exact hw _
    · split at ho
      · rw [List.mem_singleton.1 ho]; exact hw _
      · split at ho
        · cases ho
        · rcases List.mem_cons.1 ho with rfl | ho
          · exact fitO_sync hp _
          · rw [List.mem_singleton.1 ho]; exact hw _
theorem below_trans {B : Nat} {a b c : World} (h : Below B a b) (k : Below B b c) (_ : B ≤ a.heap.size) : Below B a c := ⟨k.os.trans h.os, k.tape.trans h.tape, k.output.trans h.output, Nat.le_trans h.size k.size, fun i hi => (k.block i hi).trans (h.block i hi)⟩
theorem appendPlan_len (L : List F) (p rc : ByteArray) : (appendPlan L p rc).1.length ≤ 2 := by
  unfold appendPlan
  split
  · exact Nat.zero_le _
  · split
    · exact Nat.le_succ _
    · split
      · exact Nat.le_succ _
      · split
        · exact Nat.zero_le _
        · exact Nat.le_refl _
theorem append_all (v : Value) (L : List F) (p record : ByteArray) (w : World) (hv : FV w v L) (hp : prefixB p = true) (hf : Fit L) (hlen : L.length * 48 ≤ 140737488355328) (hH : Halves w) :
    Calls Tryz.prog 111 #[.agg #[v], .string p, .string record] w fun e w' => RetPlan (appendPlan L p record).1 (appendPlan L p record).2 w e w' := by
  by_cases h : 65536 < record.size
  · have h1 := append_long v p record w hp h (by
      obtain ⟨A, c, h, _⟩ := hv
      exact ⟨A, _, c, h⟩)
    unfold appendPlan
    rw [if_pos h]
    exact h1
  · exact append_yes v L p record w hv hp (by omega) hf hlen hH
set_option maxRecDepth 100000 in
set_option maxHeartbeats 4000000 in
theorem write_m (B bd : Nat) (vF vM vT vl : Value) (s : St) (l : List CR) (w : World) (hD : DRow w B bd vF vM vT (.slice none 0 0) s.files s.mem s.tabs s.gen s.marks []) (hv : CV w vl l)
    (hf : Fit s.files) (hlen : s.files.length * 48 ≤ 140737488355328) (hml : (s.mem.length + 64) * 40 ≤ 140737488355328) (hg : s.gen ≤ 4611686018427387904) (hl : ∀ c ∈ l, c.key.size ≤ 281474976710656 ∧ c.val.size ≤ 281474976710656) (hB : B ≤ w.heap.size) (hH : Halves w) :
    Calls Tryz.prog 69 #[.pointer (some ⟨bd, 0, none⟩), vl] w fun e w' => RetMeth B bd (writeR s l) w e w' := by
  have H1 := Lib.hid (fun w1 (q : Gr w w1) => batch_any vl l w1 (hv.gr q) hl)
  obtain ⟨Al, cl, rfl, l1, ⟨l2, _⟩, l3⟩ := id hv
  obtain ⟨be, hbe⟩ : ∃ x, x = batchE l := ⟨_, rfl⟩
  rw [← hbe] at H1
  by_cases h0 : be = 0
  · rw [h0] at hbe H1
    obtain ⟨hl0, hl64, hlc⟩ := batchE_zero hbe.symm
    have H2 := Lib.hid (fun w1 (q : Gr w w1) => recordOf_any (.slice Al l.length cl) l w1 (hv.gr q) (by omega) hl)
    rw [packVal_yes (okPack_recF hbe.symm)] at H2
    obtain ⟨rc, hrc⟩ : ∃ x, x = bs (packL (recF l)) := ⟨_, rfl⟩
    rw [← hrc] at H2
    have H3 := Lib.hid (fun w1 (q : Gr w w1) => append_all vF s.files (logW s.gen) rc w1 (hD.files.fv.gr q) (logW_prefix _) hf hlen (hH.gr q))
    have H0 := Lib.hid (fun w1 => logPrefix_any s.gen (by omega) w1)
    have H4 := Lib.hid (fun w1 (q : Gr w w1) => copied_any (.slice Al l.length cl) l w1 (hv.gr q) (by omega) hl)
    unfold RetPlan at H3
    obtain ⟨P, hP⟩ : ∃ P, P = (appendPlan s.files (logW s.gen) rc).1 := ⟨_, rfl⟩
    obtain ⟨er, her⟩ : ∃ x, x = (appendPlan s.files (logW s.gen) rc).2 := ⟨_, rfl⟩
    have hpl : P.length ≤ 2 := by rw [hP]; exact appendPlan_len _ _ _
    rw [← hP, ← her] at H3
    have H0' : Hid (∀ w1, Calls Tryz.prog 74 #[.int .i64 (s.gen : Int)] w1 fun e w' => ∃ v, e = .returned v ∧ (v = .string (logW s.gen) ∧ Gr w1 w')) := Lib.hid (fun w1 => (H0.out w1).mono (fun e w' h => ⟨_, h.1, rfl, h.2⟩))
    have H3' : Hid (∀ w1, Gr w w1 → Calls Tryz.prog 111 #[.agg #[vF], .string (logW s.gen), .string rc] w1 fun e w' => ∃ v, e = .returned v ∧ (∃ vP, v = .tuple #[vP, .int .i64 (er : Int)] ∧ OO w' w1.heap.size vP P ∧ Gr w1 w')) := Lib.hid (fun w1 q => (H3.out w1 q).mono (fun e w' h => by
      obtain ⟨vP, h1, h2, h3⟩ := h
      exact ⟨_, h1, vP, rfl, h2, h3⟩))
    have H4' : Hid (∀ w1, Gr w w1 → Calls Tryz.prog 63 #[.slice Al l.length cl] w1 fun e w' => ∃ v, e = .returned v ∧ (CO w' w1.heap.size v l ∧ Gr w1 w')) := Lib.hid (fun w1 q => (H4.out w1 q).mono (fun e w' h => by
      obtain ⟨v, h1, h2, h3⟩ := h
      exact ⟨_, h1, h2, h3⟩))
    have HM1 : Hid (∀ W' v (M : List CR), CO W' B v M → M.length * 40 ≤ 140737488355328 → Calls Tryz.prog 61 #[v] W' fun e w' => ∃ u, e = .returned u ∧ (CO w' B u (puts [] M) ∧ Kp v.ownBlock W' w')) := Lib.hid (fun W' v M h1 h2 => (settled_any v M B W' h1 h2).mono (fun e w' h => by
      obtain ⟨v, h1, h2, h3, h4⟩ := h
      exact ⟨_, h1, h2, h3⟩))
    have HD := Lib.hid hD
    have hbd := Lib.hid hD.base
    obtain ⟨r, hr⟩ : ∃ r, r = writeR s l := ⟨_, rfl⟩
    have HW : Hid (r = if er ≠ 0 then (st0, [], er) else if 1024 < (puts [] (s.mem ++ l)).length then (st0, [], 4) else (⟨(run s.files P).1, puts [] (s.mem ++ l), s.tabs, s.gen, s.marks⟩, P, (run s.files P).2.2)) := Lib.hid (by
      rw [hr]
      unfold writeR
      rw [if_neg (by omega), ← hrc, ← hP, ← her])
    have HF : Hid (∀ o ∈ P, FitO o) := Lib.hid (by rw [hP]; exact fitO_append (by have := prefix_size (logW_prefix s.gen); omega))
    have HPL := Lib.hid hpl
    have HLN := Lib.hid hf
    have hbl : bd < w.heap.size := (Array.getElem?_eq_some_iff.1 hD.obj).1
    obtain ⟨AM, cM, rfl, -, -⟩ := own_form hD.mem
    obtain ⟨nl, hnl⟩ : ∃ n, n = l.length := ⟨_, rfl⟩
    have HNL := Lib.hid hnl
    rw [← hnl] at H1 H2 H4' l1 hl64 hv ⊢
    have HV := Lib.hid hv
    obtain ⟨nM, hnM⟩ : ∃ n, n = s.mem.length := ⟨_, rfl⟩
    have HNM := Lib.hid hnM
    rw [← hnM] at HD hml
    have HC0 : Hid (∀ W', Gr w W' → W'.cell? ⟨bd, 0, none⟩ = some vF) := Lib.hid (fun W' q => obj_cell (gr_obj q hD.obj) (i := 0) rfl)
    have c3 := obj_cell hD.obj (i := 3) rfl
    have c3' : w.cell? ⟨bd, 3, none⟩ = some (.int .i64 (s.gen : Int)) := c3
    rw [← hr]
    clear hr H0 H3 H4 hrc hP her hf hbe hlc hnl hnM hD c3 hpl l3 hv hl hH h0
    go_enter Tryz.func69, Tryz.ntmps69
    go_wp2_with fail
    refine (H1.out _ (Gr.refl _)).mono ?_
    rintro e w1 ⟨rfl, g1⟩
    have HG1 := Lib.hid g1
    have c3'' := g1.cell c3'
    clear g1 c3'
    go_wp2_with fail
    refine (H2.out _ HG1.out).mono ?_
    rintro e w2 ⟨rfl, g2⟩
    have HG2 := Lib.hid (HG1.out.trans g2)
    have c3 := g2.cell c3''
    clear c3'' g2
    go_upto_region 7 with (fail)
    go_cut [8, 7] (fun s8 s7 wx => s7 = .int .i64 (er : Int) ∧ Hid (OO wx w.heap.size s8 P ∧ Gr w wx))
    case first =>
      have c0 := HC0.out _ HG2.out
      have d0 := HC0.out _ (HG2.out.trans (Gr.refl _).drew)
      go_region_law
        first
        | (refine step_call rfl 74 [.tmp 32] _ rfl [.int .i64 (s.gen : Int)] rfl (cf_logPrefix _) (H0'.out _) ?_
           intro v9 w9 h9
           obtain ⟨rfl, g9⟩ := h9
           have HG9 := Lib.hid ((HG2.out.trans (Gr.refl _).drew).trans g9)
           have e0 := HC0.out _ HG9.out
           clear g9)
        | (refine step_call rfl 111 [.tmp 27, .tmp 33, .tmp 34] _ rfl [.agg #[vF], .string (logW s.gen), .string rc] rfl (cf_append _) (H3'.out _ (by first | assumption | exact HG9.out)) ?_
           intro v8 w8 h8
           obtain ⟨vP, rfl, h8⟩ := h8)
      all_goals
        go_wp2
        go_meet
        exact ⟨rfl, Lib.hid ⟨by first | exact h8.1.le HG9.out.size | skip, by first | exact HG9.out.trans h8.2 | skip⟩⟩
    case rest =>
      obtain ⟨rfl, HC⟩ := hcut
      clear H0' H3' c3 H2 H1
      by_cases he : er = 0
      · subst he
        have t1 : ((0 : Nat) : Int) = 0 := rfl
        have HDC := Lib.hid (HD.out.gr HC.out.2)
        have HPC := Lib.hid ((HC.out.1).le hB)
        go_upto_region 10 with (fail)
        go_cut [] (fun wx => Hid (∃ u, DRow wx B bd vF u vT (.slice none 0 0) s.files (puts [] (s.mem ++ l)) s.tabs s.gen s.marks [] ∧ OO wx B u8 P ∧ Below B w wx))
        case first =>
          have c1 := obj_cell HDC.out.obj (i := 1) rfl
          have z1 := obj_free (i := 1) HDC.out.obj
          have HGC := Lib.hid (HC.out.2.trans (Gr.refl _).drew)
          have HML := Lib.hid hml
          have HB := Lib.hid hB
          go_region_law
            first
            | (refine step_call rfl 63 [.tmp 47] _ rfl [.slice Al nl cl] rfl (cf_copied _) (H4'.out _ HGC.out) ?_
               intro v9 w9 h9
               have HO9 := Lib.hid h9.1
               have g9 := h9.2
               have HG9 := Lib.hid g9
               obtain ⟨A9, k9, rfl, -, -⟩ := own_form h9.1
               have hobj9 := gr_obj g9 HDC.out.obj
               have e1 := obj_cell hobj9 (i := 1) rfl
               have HB9 := Lib.hid hobj9
               clear g9 h9 hobj9)
            | (refine step_push_c rfl (.tmp 46) (.tmp 48) rfl B (.slice AM nM cM) (.slice A9 l.length k9) s.mem l nM l.length HNM.out rfl rfl (HDC.out.mem.gr ((Gr.refl _).drew.trans HG9.out)) rfl HO9.out.cv (by have := HML.out; have := HNL.out; omega) (by have := HB.out; have := HGC.out.size; have := HG9.out.size; omega) ?_
               intro A4 k4 w4 hown4 hk4
               have HN4 := Lib.hid (And.intro hown4 hk4)
               have HB4 := Lib.hid (kp_obj hk4 HB9.out (own_ne_obj (HDC.out.mem.gr ((Gr.refl _).drew.trans HG9.out)) HB9.out (by decide)))
               clear hown4 hk4)
            | (refine step_call rfl 61 [.tmp 49] _ rfl [.slice A4 (nM + l.length) k4] rfl (cf_settled _) (HM1.out _ _ _ HN4.out.1 (by rw [List.length_append]; have := HML.out; have := HNL.out; have := HNM.out; omega)) ?_
               intro v5 w5 h5
               have HN5 := Lib.hid h5
               obtain ⟨A5, k5, rfl, -, -⟩ := own_form h5.1
               have hobj5 := kp_obj h5.2 HB4.out (own_ne_obj HN4.out.1 HB4.out (by decide))
               have e5 := obj_cell hobj5 (i := 1) rfl
               have z5 := obj_free (i := 1) hobj5
               clear h5 hobj5)
          all_goals
            go_wp2
            go_meet
            exact Lib.hid ⟨_, mem_fin HC.out.2 HB.out HDC.out HPC.out ((Gr.refl _).drew.trans HG9.out) HN4.out.1 HN4.out.2 HN5.out.1 HN5.out.2⟩
        case rest =>
          clear HDC HPC HC
          obtain ⟨u, hd, hp, hbw⟩ := hcut.out
          have HD5 := Lib.hid hd
          have HP5 := Lib.hid hp
          have HW5 := Lib.hid hbw
          obtain ⟨AP, kP, hu8, -, -⟩ := own_form hp
          obtain ⟨A5, k5, rfl, -, -⟩ := own_form hd.mem
          obtain ⟨n5, hn5⟩ : ∃ n, n = (puts [] (s.mem ++ l)).length := ⟨_, rfl⟩
          have HN5 := Lib.hid hn5
          have c1 := obj_cell hd.obj (i := 1) rfl
          have HL := Lib.hid hlen
          have HB := Lib.hid hB
          have HWE := HW.out
          rw [if_neg (by omega), ← hn5] at HWE
          have HWR := Lib.hid HWE
          rw [← hn5] at c1
          subst hu8
          clear hcut hd hp hbw HWE hn5
          by_cases h24 : 1024 < n5
          · have t2 : ((n5 : Int) > 1024) := by omega
            go_wp2_with fail
            go_ret
            have e := HWR.out
            rw [if_pos h24] at e
            rw [e]
            exact meth_no (by decide) HW5.out
          · have t2 : ¬ ((n5 : Int) > 1024) := by omega
            have e := HWR.out
            rw [if_neg h24] at e
            have HE := Lib.hid e
            have H6 := Lib.hid (do_m B bd vF (.slice A5 (puts [] (s.mem ++ l)).length k5) vT (.slice none 0 0) (.slice AP P.length kP) s.files (puts [] (s.mem ++ l)) s.tabs s.gen s.marks [] P wc HD5.out B HP5.out HLN.out HF.out HL.out (by have := HPL.out; simp only [List.length_nil]; omega) (by have := HW5.out.size; have := HB.out; omega))
            rw [← HN5.out] at H6
            clear e HD5 HP5
            go_wp2_with fail
            refine H6.out.mono ?_
            rintro e w6 h6
            have h7 := RetDoM.meth (hbd.out) (OO.nil _ _) (by have := HW5.out.size; have := HB.out; omega) h6
            obtain ⟨rfl, h8, h9⟩ := h7
            have HR8 := Lib.hid h8
            have HB9 := Lib.hid (below_trans HW5.out h9 (by have := HB.out; exact this))
            clear h6 h8 h9
            go_wp2_with fail
            go_ret
            rw [HE.out]
            exact ⟨rfl, HR8.out, HB9.out⟩
      · have t1 : ((er : Int) == 0) = false := by rw [beq_eq_false_iff_ne]; omega
        have e := HW.out
        rw [if_pos he] at e
        have HE := Lib.hid e
        have HG := Lib.hid (gr_below HC.out.2 hB)
        clear e
        go_wp2_with fail
        go_ret
        rw [HE.out]
        exact meth_no he HG.out
  · have t1 : ((be : Int) == 0) = false := by rw [beq_eq_false_iff_ne]; omega
    have HE : Hid (writeR s l = (st0, [], be)) := Lib.hid (by unfold writeR; rw [if_pos (by omega), ← hbe])
    have HB := Lib.hid hB
    clear hbe hD hv l3 hf hlen hml hl hH
    go_enter Tryz.func69, Tryz.ntmps69
    go_wp2_with fail
    refine (H1.out _ (Gr.refl _)).mono ?_
    rintro e w1 ⟨rfl, g1⟩
    have HG := Lib.hid (gr_below g1 HB.out)
    clear g1
    go_wp2_with fail
    go_ret
    rw [HE.out]
    exact meth_no h0 HG.out
end Go.Proofs.YtlnhbndghnkfmaaGreatDoor
namespace Go.Proofs.YtlnhbndghnkfmaaGreatDoor
open Go.RowKit

/-- The mark of a table. -/
def markL (letter : ByteArray) (marks : Nat) : ByteArray := bs (packL [letter, nameW tabP marks])
/-- What a table's keeping does first, in plain words: the table itself, its mark. -/
noncomputable def keepP (files : List F) (marks : Nat) (l : List CR) (letter : ByteArray) : List O :=
  [writeO tabP marks (buildR (l.map pairC)).1, syncO tabP marks] ++ (appendPlan files mP (markL letter marks)).1
/-- A table is kept: the files, what was done, the error's number. -/
noncomputable def keepR (files : List F) (marks : Nat) (l : List CR) (letter : ByteArray) : (List F × List O) × Nat :=
  if (buildR (l.map pairC)).2 ≠ 0 then (([], []), (buildR (l.map pairC)).2)
  else if (appendPlan files mP (markL letter marks)).2 ≠ 0 then (([], []), (appendPlan files mP (markL letter marks)).2)
  else if (run files (keepP files marks l letter)).2.2 ≠ 0 then (([], []), (run files (keepP files marks l letter)).2.2)
  else (((run (run files (keepP files marks l letter)).1 (syncPlan (run files (keepP files marks l letter)).1 mP)).1, keepP files marks l letter ++ syncPlan (run files (keepP files marks l letter)).1 mP), (run (run files (keepP files marks l letter)).1 (syncPlan (run files (keepP files marks l letter)).1 mP)).2.2)
def RetKeep (B bd : Nat) (vM vT : Value) (M : List CR) (T : List ByteArray) (g m : Nat) (D : List O) (k : (List F × List O) × Nat) (w : World) (e : Ending) (w' : World) : Prop :=
  ∃ nm, e = .returned (.tuple #[.string nm, .int .i64 (k.2 : Int)]) ∧ (k.2 = 0 → nm = nameW tabP m ∧ ∃ vF vD, DRow w' B bd vF vM vT vD k.1.1 M T g (m + 1) (D ++ k.1.2)) ∧ Below B w w'
theorem keep_no {B bd : Nat} {vM vT : Value} {M : List CR} {T : List ByteArray} {g m : Nat} {D : List O} {er : Nat} (he : er ≠ 0) {w w' : World} (nm : ByteArray) (h : Below B w w') : RetKeep B bd vM vT M T g m D (([], []), er) w (.returned (.tuple #[.string nm, .int .i64 (er : Int)])) w' := ⟨_, rfl, fun h => absurd h he, h⟩
theorem len_f3 {D P : List O} (h : (D.length + 5) * 48 ≤ 140737488355328) (h2 : P.length ≤ 4) : ((D ++ P).length + 1) * 48 ≤ 140737488355328 := by
  have e : (D ++ P).length = D.length + P.length := List.length_append
  omega
theorem len_f4 {D P : List O} (h : (D.length + 5) * 48 ≤ 140737488355328) (h2 : P.length ≤ 4) : (D.length + P.length) * 48 ≤ 140737488355328 := by omega
theorem len_f2 {L : List F} {P : List O} (h : L.length * 48 ≤ 140737488355328) : (run L P).1.length * 48 ≤ 140737488355328 := by
  have := run_len (L := L) (ops := P)
  omega
theorem len_pp {a b : O} {P PP : List O} (h : PP = [a, b] ++ P) (hp : P.length ≤ 2) : PP.length ≤ 4 := by
  subst h
  rw [List.length_append]
  show 2 + _ ≤ 4
  omega
theorem wrap_succ {m : Nat} (h : m ≤ 4611686018427387904) : IntKind.i64.wrap ((m : Int) + 1) = ((m + 1 : Nat) : Int) := by
  rw [IntKind.wrap_i64]
  omega
theorem okPack_mark {letter : ByteArray} (hl : letter.size = 1) (n : Nat) : okPack [letter, nameW tabP n] := by
  have e : (nameW tabP n).size = 8 := by rw [nameW_size]; rfl
  refine ⟨by simp, ?_, ?_⟩
  · intro s hs
    simp only [List.mem_cons, List.not_mem_nil, or_false] at hs
    rcases hs with rfl | rfl <;> omega
  · simp only [tot]
    omega
theorem mP_ok : prefixB mP = true := by decide
theorem build_size (l : List PR) : (buildR l).1.size ≤ 1048576 := by
  by_cases h : okTab l
  · rw [buildR_ok h]
    show (bs (tabL l)).size ≤ _
    have := h.2.2.2.2
    rw [size_list]
    simpa [bs] using this
  · rw [(buildR_bad h).1]
    exact Nat.zero_le _
theorem drow_marks {W : World} {B bd : Nat} {vF vM vT vD : Value} {L : List F} {M : List CR} {T : List ByteArray} {g m : Nat} {D : List O} (h : DRow W B bd vF vM vT vD L M T g m D) (m' : Nat) :
    DRow (W.setCell ⟨bd, 4, none⟩ (.int .i64 (m' : Int))) B bd vF vM vT vD L M T g m' D :=
  ⟨set_obj h.obj _, h.base, own_set_obj h.files h.obj (by decide) _, own_set_obj h.mem h.obj (by decide) _, own_set_obj h.tabs h.obj (by decide) _, own_set_obj h.ops h.obj (by decide) _⟩
theorem wpList_push_ok {W w0 : World} {ops : Array Oper} {rest : List Oper} {o : Oper} {a : Act} {Q : Exit → Act → World → Prop} (hgd : o.guard = none) (s x : Operand)
    (ho : o.op = .call { callee := .builtin .append, args := #[s, x], argTypes := #[31, 31] })
    (v vx : Value) (L M : List O) (n m : Nat) (hn : n = L.length) (hm : m = M.length) (hs : a.eval s = v) (hown : OO W w0.heap.size v L) (hx : a.eval x = vx) (hxv : OV W vx M) (hlen : (n + m) * 48 ≤ 140737488355328) (hg : Gr w0 W)
    (h : ∀ A' c' w', OO w' w0.heap.size (.slice A' (n + m) c') (L ++ M) → Gr w0 w' → wpList Tryz.prog ops Q rest (a.put o.dst (.slice A' (n + m) c')) w') :
    wpList Tryz.prog ops Q (o :: rest) a W := by
  subst hn hm
  obtain ⟨i0, hi, hz0, hz1, hz2⟩ := info_parts infoOp
  have hsz := hg.size
  refine wpList_append_sl _ hgd s x 31 ho w0.heap.size 72 i0 _ 4 48 Tryz.underlying31 hi hz0 hz1 hz2 rfl (by decide) v L.length (ocells L) hs hown vx M.length (ocells M) hx
    hxv.sl (ocells_one M) (by unfold maxLen; omega) hlen hsz (L.length + M.length) rfl ?_
  intro A' c' w' hown' hgr _
  refine h A' c' w' ?_ (gr_of_grown hg hown hgr hsz)
  unfold OO
  rw [List.length_append]
  unfold ocells at hown' ⊢
  rw [List.flatMap_append]
  exact hown'
set_option maxRecDepth 100000 in
set_option maxHeartbeats 4000000 in
theorem keep_m (B bd : Nat) (vF vM vT vD vl : Value) (L : List F) (M : List CR) (T : List ByteArray) (g m : Nat) (D : List O) (l : List CR) (letter : ByteArray) (w : World) (hD : DRow w B bd vF vM vT vD L M T g m D) (hv : CV w vl l)
    (hf : Fit L) (hlen : L.length * 48 ≤ 140737488355328) (hll : l.length * 40 ≤ 140737488355328) (hm : m ≤ 4611686018427387904) (hl : ∀ c ∈ l, c.key.size ≤ 281474976710656 ∧ c.val.size ≤ 281474976710000) (hlt : letter.size = 1) (hDl : (D.length + 5) * 48 ≤ 140737488355328) (hB : B ≤ w.heap.size) (hH : Halves w) :
    Calls Tryz.prog 125 #[.pointer (some ⟨bd, 0, none⟩), vl, .string letter] w fun e w' => RetKeep B bd vM vT M T g m D (keepR L m l letter) w e w' := by
  obtain ⟨bt, hbt⟩ : ∃ x, x = (buildR (l.map pairC)).1 := ⟨_, rfl⟩
  obtain ⟨be, hbe⟩ : ∃ x, x = (buildR (l.map pairC)).2 := ⟨_, rfl⟩
  obtain ⟨P, hP⟩ : ∃ P, P = (appendPlan L mP (markL letter m)).1 := ⟨_, rfl⟩
  obtain ⟨er, her⟩ : ∃ x, x = (appendPlan L mP (markL letter m)).2 := ⟨_, rfl⟩
  obtain ⟨nm, hnm⟩ : ∃ x, x = nameW tabP m := ⟨_, rfl⟩
  obtain ⟨mk, hmk⟩ : ∃ x, x = markL letter m := ⟨_, rfl⟩
  have hbs : bt.size ≤ 1048576 := by rw [hbt]; exact build_size _
  have hpl : P.length ≤ 2 := by rw [hP]; exact appendPlan_len _ _ _
  have hnms : nm.size = 8 := by rw [hnm, nameW_size]; rfl
  have H1 := Lib.hid (fun w1 (q : Gr w w1) => pairsOf_any vl l w1 (hv.gr q) hll (fun c hc => by have := hl c hc; omega))
  have H2 : Hid (∀ w1 u, Gr w w1 → PV w1 u (l.map pairC) → Calls Tryz.prog 129 #[u] w1 fun e w' => e = .returned (.tuple #[.string bt, .int .i64 (be : Int)]) ∧ Gr w1 w') := Lib.hid (fun w1 u q hu => by
    rw [hbt, hbe]
    exact build_any u _ w1 hu (fun p hp => by
      obtain ⟨c, hc, rfl⟩ := List.mem_map.1 hp
      have h1 := hl c hc
      have h2 : (pairC c).val.size ≤ c.val.size + 1 := by
        unfold pairC
        dsimp only
        split
        · show 1 ≤ _
          omega
        · rw [ByteArray.size_append]
          show 1 + _ ≤ _
          omega
      exact ⟨h1.1, by omega⟩) (hH.gr q))
  have H3 : Hid (∀ w1, Calls Tryz.prog 141 #[.string ⟨#[116]⟩, .int .i64 (m : Int)] w1 fun e w' => e = .returned (.string nm) ∧ Gr w1 w') := Lib.hid (fun w1 => by rw [hnm]; exact wname_any tabP (by decide) m (by omega) w1)
  have H4 : Hid (∀ w1 u, SV w1 u [letter, nm] → Calls Tryz.prog 135 #[u] w1 fun e w' => e = .returned (.tuple #[.string mk, .int .i64 0]) ∧ Gr w1 w') := Lib.hid (fun w1 u hu => by
    have h := pack_any u [letter, nm] w1 hu (by
      intro s hs
      simp only [List.mem_cons, List.not_mem_nil, or_false] at hs
      unfold maxLen
      rcases hs with rfl | rfl <;> omega)
    rw [hnm, packVal_yes (okPack_mark hlt m)] at h
    rw [hmk]
    exact h)
  have H5 : Hid (∀ w1, Gr w w1 → Calls Tryz.prog 111 #[.agg #[vF], .string ⟨#[109]⟩, .string mk] w1 fun e w' => RetPlan P er w1 e w') := Lib.hid (fun w1 q => by
    rw [hP, her, ← hmk]
    exact append_all vF L mP mk w1 (hD.files.fv.gr q) mP_ok hf hlen (hH.gr q))
  unfold RetPlan at H5
  have HFO : Hid (∀ o ∈ [writeO tabP m bt, syncO tabP m] ++ P, FitO o) := Lib.hid (by
    intro o ho
    rcases List.mem_append.1 ho with ho | ho
    · simp only [List.mem_cons, List.not_mem_nil, or_false] at ho
      rcases ho with rfl | rfl
      · exact fitO_write (by decide) _ hbs
      · exact fitO_sync (by decide) _
    · rw [hP] at ho
      exact fitO_append (by decide) o ho)
  obtain ⟨k, hk⟩ : ∃ k, k = keepR L m l letter := ⟨_, rfl⟩
  obtain ⟨PP, hPP⟩ : ∃ x, x = [writeO tabP m bt, syncO tabP m] ++ P := ⟨_, rfl⟩
  have hKP : keepP L m l letter = PP := by
    unfold keepP
    rw [hPP, hbt, hP]
  obtain ⟨L1, hL1⟩ : ∃ x, x = (run L PP).1 := ⟨_, rfl⟩
  obtain ⟨e1, he1⟩ : ∃ x, x = (run L PP).2.2 := ⟨_, rfl⟩
  obtain ⟨P2, hP2⟩ : ∃ x, x = syncPlan L1 mP := ⟨_, rfl⟩
  obtain ⟨L2, hL2⟩ : ∃ x, x = (run L1 P2).1 := ⟨_, rfl⟩
  obtain ⟨e2, he2⟩ : ∃ x, x = (run L1 P2).2.2 := ⟨_, rfl⟩
  have HK : Hid (k = if be ≠ 0 then (([], []), be) else if er ≠ 0 then (([], []), er) else if e1 ≠ 0 then (([], []), e1) else ((L2, PP ++ P2), e2)) := Lib.hid (by
    rw [hk]
    unfold keepR
    rw [hKP, ← hbe, ← her, ← he1, ← hL1, ← hP2, ← hL2, ← he2])
  have hppl : PP.length ≤ 4 := len_pp hPP hpl
  rw [← hPP] at HFO
  have H6 : Hid (∀ w1 vP, Gr w w1 → OO w1 w.heap.size vP PP → Calls Tryz.prog 112 #[.pointer (some ⟨bd, 0, none⟩), vP] w1 fun e w' => RetDoM B bd vM vT vD L M T g m D PP w1 e w') := Lib.hid (fun w1 vP q hP => do_m B bd vF vM vT vD vP L M T g m D PP w1 (hD.gr q) w.heap.size hP hf HFO.out hlen (len_f4 hDl hppl) (Nat.le_trans hB q.size))
  have H7 : Hid (∀ w1 vF1 vD1, DRow w1 B bd vF1 vM vT vD1 L1 M T g (m + 1) (D ++ PP) → B ≤ w1.heap.size → Calls Tryz.prog 85 #[.pointer (some ⟨bd, 0, none⟩), .string ⟨#[109]⟩] w1 fun e w' => RetDoM B bd vM vT vD1 L1 M T g (m + 1) (D ++ PP) P2 w1 e w') := Lib.hid (fun w1 vF1 vD1 hd hb => by
    have f1 : Fit L1 := by rw [hL1]; exact run_fit hf
    have f2 : L1.length * 48 ≤ 140737488355328 := by rw [hL1]; exact len_f2 hlen
    have f3 : ((D ++ PP).length + 1) * 48 ≤ 140737488355328 := len_f3 hDl hppl
    have h := sync_m B bd vF1 vM vT vD1 L1 M T g (m + 1) (D ++ PP) mP w1 hd mP_ok f1 f2 f3 hb
    rw [← hP2] at h
    exact h)
  unfold RetDoM at H6 H7
  rw [← he1, ← hL1] at H6
  rw [← he2, ← hL2] at H7
  rw [← hk]
  have HPP := Lib.hid hPP
  have HPL := Lib.hid hpl
  have HB := Lib.hid hB
  have hm' := wrap_succ hm
  have HM := Lib.hid hm
  have HC0 : Hid (∀ W', Gr w W' → W'.cell? ⟨bd, 0, none⟩ = some vF) := Lib.hid (fun W' q => obj_cell (gr_obj q hD.obj) (i := 0) rfl)
  have HC4 : Hid (∀ W', Gr w W' → W'.cell? ⟨bd, 4, none⟩ = some (.int .i64 (m : Int))) := Lib.hid (fun W' q => obj_cell (gr_obj q hD.obj) (i := 4) rfl)
  have HNM := Lib.hid hnm
  have HBD := Lib.hid hD.base
  have HDV : Hid (∀ b, vD.ownBlock = some b → B ≤ b) := Lib.hid (fun b hb => (own_lt hD.ops hb).2)
  obtain ⟨Al, nl, cl, rfl⟩ : ∃ A n c, vl = .slice A n c := by
    obtain ⟨A, c, h, _⟩ := hv
    exact ⟨A, _, c, h⟩
  obtain ⟨AF, cF, rfl, -, -⟩ := own_form hD.files
  obtain ⟨nF, hnF⟩ : ∃ n, n = L.length := ⟨_, rfl⟩
  rw [← hnF] at HC0 H5
  clear hbt hbe hP her hnm hmk hbs hpl hnms hk hPP hKP hL1 he1 hP2 hL2 he2 hppl hD hv hf hlen hll hm hl hlt hDl hB hH hnF HFO
  go_enter Tryz.func125, Tryz.ntmps125
  go_wp2_with fail
  refine (H1.out _ (Gr.refl _)).mono ?_
  rintro e w1 ⟨u, rfl, hpo, g1⟩
  obtain ⟨A1, k1, rfl, -, -⟩ := own_form hpo
  obtain ⟨PL, hPL⟩ : ∃ x, x = l.map pairC := ⟨_, rfl⟩
  rw [← hPL] at hpo H2 ⊢
  obtain ⟨np, hnp⟩ : ∃ x, x = PL.length := ⟨_, rfl⟩
  rw [← hnp] at hpo ⊢
  have HPO := Lib.hid hpo
  have HG1 := Lib.hid g1
  clear hpo g1 hPL hnp
  go_wp2_with fail
  refine (H2.out _ _ HG1.out HPO.out.pv).mono ?_
  rintro e w2 ⟨rfl, g2⟩
  have HG2 := Lib.hid (HG1.out.trans g2)
  clear g2
  by_cases hb0 : be = 0
  · subst hb0
    have c4 := HC4.out _ HG2.out
    go_wp2_with fail
    refine (H3.out _).mono ?_
    rintro e w3 ⟨rfl, g3⟩
    have HG3 := Lib.hid (HG2.out.trans g3)
    clear c4 g3
    go_wp2_with fail
    refine (H4.out _ _ (sv_two _ letter nm)).mono ?_
    rintro e w4 ⟨rfl, g4⟩
    have HG4 := Lib.hid (HG3.out.trans ((gr_box _ _).trans g4))
    have c0 := HC0.out _ HG4.out
    clear g4
    go_wp2_with fail
    refine (H5.out _ HG4.out).mono ?_
    rintro e w5 ⟨vP, rfl, hop, g5⟩
    have HG5 := Lib.hid (HG4.out.trans g5)
    have HOP := Lib.hid (hop.le HG4.out.size)
    obtain ⟨AP, kP, rfl, -, -⟩ := own_form hop
    clear hop g5 c0
    by_cases hr0 : er = 0
    · subst hr0
      obtain ⟨nP, hnP⟩ : ∃ n, n = P.length := ⟨_, rfl⟩
      have HNP := Lib.hid hnP
      have HSZ : Hid (nP ≤ 2) := Lib.hid (by rw [hnP]; exact HPL.out)
      rw [← hnP] at HOP ⊢
      clear hnP HPL
      have hsz := HSZ.out
      go_wp2_with (at_builtin; refine wpList_push_ok (w0 := w) rfl (.tmp 59) (.tmp 60) rfl (.slice (some ⟨w5.heap.size, 0, none⟩) 2 2) (.slice AP nP kP) [⟨1, nm, bt, 0⟩, ⟨2, nm, ⟨#[]⟩, 0⟩] P 2 nP rfl HNP.out rfl (oo_two w5 ⟨1, nm, bt, 0⟩ ⟨2, nm, ⟨#[]⟩, 0⟩ w.heap.size HG5.out.size) rfl (HOP.out.gr (gr_box _ _)).ov (by omega) (HG5.out.alloc _) ?_)
      intro A6 c6 w6 hp6 g6
      have HP6 : Hid (OO w6 w.heap.size (.slice A6 (2 + nP) c6) PP) := Lib.hid (by
        rw [HPP.out]
        rw [HNM.out] at hp6
        exact hp6)
      have HG6 := Lib.hid g6
      clear hp6 g6 hsz
      go_wp2_with fail
      refine (H6.out _ _ HG6.out HP6.out).mono ?_
      rintro e w7 ⟨rfl, h7, k7⟩
      have HB7 := Lib.hid (k7.below (gr_below HG6.out HB.out) (Nat.le_trans HB.out HG6.out.size) (fun i hi => by
        rcases hi with rfl | hi
        · exact HBD.out
        · exact HDV.out _ hi))
      clear k7
      by_cases hq : e1 = 0
      · subst hq
        obtain ⟨vF7, vD7, hd7, -⟩ := h7 rfl
        have HD7 := Lib.hid hd7
        have c4 := obj_cell hd7.obj (i := 4) rfl
        have z4 := obj_free (i := 4) hd7.obj
        have HDV7 : Hid (∀ b, vD7.ownBlock = some b → B ≤ b) := Lib.hid (fun b hb => (own_lt hd7.ops hb).2)
        clear h7 hd7
        go_wp2_with fail
        refine (H7.out _ _ _ (drow_marks HD7.out (m + 1)) (by have := HB7.out.size; have := HB.out; simp [World.setCell]; omega)).mono ?_
        rintro e w8 ⟨rfl, h8, k8⟩
        have HB8 := Lib.hid (k8.below (HB7.out.setCell (p := ⟨bd, 4, none⟩) HBD.out _) (by have := HB7.out.size; have := HB.out; simp [World.setCell]; omega) (fun i hi => by
          rcases hi with rfl | hi
          · exact HBD.out
          · exact HDV7.out _ hi))
        have HR8 := Lib.hid h8
        clear h8 k8 c4 z4
        go_wp2_with fail
        go_ret2
        have e := HK.out
        rw [if_neg (by omega), if_neg (by omega), if_neg (by omega)] at e
        rw [e]
        refine ⟨_, rfl, fun he => ⟨HNM.out, ?_⟩, HB8.out⟩
        obtain ⟨a, b, h, -⟩ := HR8.out he
        exact ⟨a, b, by rw [← List.append_assoc]; exact h⟩
      · have t1 : ((e1 : Int) == 0) = false := by rw [beq_eq_false_iff_ne]; omega
        have e := HK.out
        rw [if_neg (by omega), if_neg (by omega), if_pos hq] at e
        have HE := Lib.hid e
        clear e h7
        go_wp2_with fail
        go_ret2
        rw [HE.out]
        exact keep_no hq _ HB7.out
    · have t1 : ((er : Int) == 0) = false := by rw [beq_eq_false_iff_ne]; omega
      have e := HK.out
      rw [if_neg (by omega), if_pos hr0] at e
      have HE := Lib.hid e
      clear e
      go_wp2_with fail
      go_ret2
      rw [HE.out]
      exact keep_no hr0 _ (gr_below HG5.out HB.out)
  · have t1 : ((be : Int) == 0) = false := by rw [beq_eq_false_iff_ne]; omega
    have e := HK.out
    rw [if_pos hb0] at e
    have HE := Lib.hid e
    clear e
    go_wp2_with fail
    go_ret2
    rw [HE.out]
    exact keep_no hb0 _ (gr_below HG2.out HB.out)
end Go.Proofs.YtlnhbndghnkfmaaGreatDoor
