/- Walks: opening a log, the document's: its records and its plan. -/
import Derived.Test.YtmkcgnljankmdaaDoorWalH
namespace Go.Proofs.YtmkcgnljankmdaaDoor
open Go.RowKit

abbrev RSD (A : Option Addr) (n c b : Nat) (w2 w' : World) : Prop := w'.cell? ⟨b, 0, none⟩ = some (.slice A n c) ∧ Gr w2 w'
theorem RSD.gr {A : Option Addr} {n c b : Nat} {w2 w1 w3 : World} (h : RSD A n c b w2 w1) (g : Gr w1 w3) : RSD A n c b w2 w3 := ⟨g.cell h.1, h.2.trans g⟩
structure RIInv (p : ByteArray) (a n t : Nat) (vo : Value) (acc : List O) (v8 : Value) (R8 : List ByteArray) (w2 wr : World) : Prop where
  ht : t ≤ n
  all : acc ++ dropsO p a t = dropsO p a n
  len : acc.length + t ≤ n
  own : OO wr w2.heap.size vo acc
  so : SO wr w2.heap.size v8 R8
  gr : Gr w2 wr
def RIRel (p : ByteArray) (a n : Nat) (v8 : Value) (R8 : List ByteArray) (w2 : World) (vo i : Value) (wr : World) : Prop := ∃ (t : Nat) (acc : List O), i = .int .i64 ((t : Int) - 1) ∧ RIInv p a n t vo acc v8 R8 w2 wr

set_option maxRecDepth 100000 in
set_option maxHeartbeats 4000000 in
theorem ropen_yes (v : Value) (L : List F) (p : ByteArray) (w : World) (hv : FV w v L) (hp : prefixB p = true) (hf : Fit L) (hsm : ∀ f ∈ segL L p, f.size ≤ 1048576) :
    Calls Tryd.prog 11 #[.agg #[v], .string p] w fun e w' => RetOpen (openW L p).1 (openW L p).2 0 w e w' := by
  have hps := prefix_size hp
  have h1 := fun w => rprefix_any p (by omega) w
  rw [hp] at h1
  have H1 := Lib.hid h1
  have H2 := Lib.hid (fun w1 (g : Gr w w1) => rsegments_any v L p w1 (hv.gr g) (by omega) hf)
  have HB := Lib.hid (fun nm w1 (g : Gr w w1) => rbytes_any v L nm w1 (hv.gr g) hf)
  have hsn := (segN_is L p).le.2
  have hl := segL_len L p
  obtain ⟨S, hS⟩ : ∃ S, S = segL L p := ⟨_, rfl⟩
  have hat : ∀ i (h : i < S.length), segO L p i = some S[i] := fun i h => by subst hS; exact segL_at h
  have hop : openW L p = openS p S.length 0 S := by unfold openW; rw [← hS]
  rw [← hS] at hsm hl
  rw [← hl] at hsn H2
  rw [hop]
  have HSM := Lib.hid hsm
  have HAT := Lib.hid hat
  obtain ⟨n, hn⟩ : ∃ n, n = S.length := ⟨_, rfl⟩
  have HN := Lib.hid hn
  rw [← hn] at hsn H2
  obtain ⟨A, c, rfl, -⟩ := hv
  have HG := Lib.hid (gr_box w (.cells #[.slice A L.length c] 24))
  clear h1 hp hl hn hf hsm hat hop hS
  go_enter Tryd.func11, Tryd.ntmps11
  go_wp2_with fail
  refine (H1.out _).mono ?_
  rintro e w1 ⟨rfl, rfl⟩
  go_wp2_with fail
  refine (H2.out _ HG.out).mono ?_
  rintro e w2 ⟨rfl, g2⟩
  have hb2 : w2.cell? ⟨w.heap.size, 0, none⟩ = some (.slice A L.length c) := g2.cell (by simp)
  have HB2 := Lib.hid hb2
  have HG2 := Lib.hid (HG.out.trans g2)
  clear g2 hb2 H2
  go_wp2_with fail
  go_loopw [8, 9, 10] (fun v vo i wr => vo = .slice none 0 0 ∧ OPRel p S w2 v i wr) (fun _ _ i _ => n - (intOf i).toNat)
  case atStart => exact ⟨rfl, 0, [], rfl, Nat.zero_le _, rfl, rfl, Nat.zero_le _, SO.nil _ _, Gr.refl _⟩
  case round =>
    obtain ⟨rfl, k, R, rfl, inv⟩ := hrel
    have HI := Lib.hid inv
    have hk : k ≤ n := by rw [HN.out]; exact inv.hk
    clear inv
    by_cases hlt : k < n
    · have hkS : k < S.length := by rw [← HN.out]; exact hlt
      have hsz := HSM.out _ (List.getElem_mem hkS)
      have hso := HAT.out k hkS
      obtain ⟨f, hf⟩ : ∃ f, f = S[k] := ⟨_, rfl⟩
      rw [← hf] at hsz hso
      have hb := bytes_at hso
      have H2 := Lib.hid (fun w1 (g : Gr w w1) => HB.out (nameW p k) w1 g)
      rw [hb] at H2
      have H6 := Lib.hid (fun w => rwname_any p (by omega) k (by omega) w)
      have hrf := recs_few hsz
      have hss : (f.kept ++ f.loose).size = f.size := by rw [ByteArray.size_append]; rfl
      have hl1 := HI.out.len
      have hble := recs_le f
      have hcnt : (scanAll (f.kept ++ f.loose).data.toList).length * 16 ≤ 140737488355328 := by show (recsF f).length * 16 ≤ _; omega
      have H3 := Lib.hid (fun w3 => show Calls Tryd.prog 30 #[.string (f.kept ++ f.loose)] w3 fun e w' => RetSVInt ((recsF f).map bs) (bytesOf (recsF f)) w3 e w' from rscan_any (f.kept ++ f.loose) (by omega) hcnt w3)
      obtain ⟨m, hm⟩ : ∃ m, m = bytesOf (recsF f) := ⟨_, rfl⟩
      have hdec : tornF f ↔ m < f.size := by unfold tornF; rw [fbytes_len, hm]
      obtain ⟨fs, hfs⟩ : ∃ s, s = f.size := ⟨_, rfl⟩
      rw [← hm] at H3 hble
      rw [← hfs] at hdec hss hble hsz
      obtain ⟨sb, hsb⟩ : ∃ s, s = f.kept ++ f.loose := ⟨_, rfl⟩
      rw [← hsb] at H2 H3 hss
      have HM := Lib.hid hm
      have HF := Lib.hid hf
      have HFS := Lib.hid hfs
      have HDC := Lib.hid hdec
      have HSS := Lib.hid hss
      have HS : Hid (RSD A L.length c w.heap.size w2 wr) := Lib.hid ⟨HI.out.g2.cell HB2.out, HI.out.g2⟩
      have hbx := HS.out.1
      clear hso hb hf hss hm hdec hfs hcnt hsb
      go_wp2_with fail
      go_region_held3 (fun w' => RSD A L.length c w.heap.size w2 w')
        (first
          | (with_reducible exact HS.out)
          | (with_reducible exact RSD.gr HS.out (Gr.refl _).drew)
          | (with_reducible assumption))
        (first
          | (go_at_call 29; (with_reducible refine (H6.out _).mono ?_); rintro e w4 ⟨rfl, hb⟩; have hS4 := RSD.gr (RSD.gr HS.out (Gr.refl _).drew) hb)
          | (go_at_call 28; (with_reducible refine (H2.out _ ?_).mono ?_); (first | exact HG2.out.trans hS4.2 | exact HG2.out.trans (RSD.gr hS4 (Gr.refl _).drew).2); rintro e w5 ⟨rfl, hb⟩; have hS5 := RSD.gr hS4 hb))
      have hG5 : Gr wr w5 := ((Gr.refl wr).drew.trans ‹Gr wr.drew w4›).trans ‹Gr w4 w5›
      have HOR := Lib.hid (HI.out.own.gr hG5)
      have HG5 := Lib.hid hS5.2
      clear hS5 hS4 hG5
      go_wp2_with fail
      refine (H3.out _).mono ?_
      rintro e w6 ⟨v6, rfl, hown6, g6⟩
      have HG6 := Lib.hid (HG5.out.trans g6)
      have HO6 : Hid (SV w6 v6 ((recsF f).map bs)) := Lib.hid (SO.sv hown6)
      have HOR6 := Lib.hid (HOR.out.gr g6)
      clear hown6 g6
      by_cases ht : tornF f
      · have hms := HDC.out.1 ht
        have HT := Lib.hid (op_torn HI.out hkS HF.out ht)
        rw [← HM.out] at HT
        have ht1 : (m : Int) < (sb.size : Int) := by rw [HSS.out]; omega
        clear ht
        go_wp2_with (at_builtin; refine wpList_push_strs (w0 := w2) rfl (.tmp 40) (.tmp 41) rfl _ _ _ _ rfl HOR6.out rfl HO6.out (by rw [List.length_map, List.length_map]; omega) HG6.out ?_; intro A7 c7 w7 hown7 g7 k7)
        rw [List.length_map, List.length_map] at hown7
        obtain ⟨L7, hL7⟩ : ∃ m, m = R.length + (recsF f).length := ⟨_, rfl⟩
        rw [← hL7] at hown7 ⊢
        have HL7 := Lib.hid hL7
        have HST : Hid (RIRel p (k + 1) n (.slice A7 L7 c7) (R.map bs ++ (recsF f).map bs) w2 (.slice none 0 0) (.int .i64 ((n : Int) - 1)) w7) := Lib.hid ⟨n, [], rfl, Nat.le_refl _, rfl, Nat.le_of_eq (Nat.zero_add _), OO.nil _ _, hown7, g7⟩
        clear hown7 g7 k7 hL7
        go_loopw [9, 15] (fun vo i wr => RIRel p (k + 1) n (.slice A7 L7 c7) (R.map bs ++ (recsF f).map bs) w2 vo i wr) (fun _ i _ => (intOf i + 1).toNat)
        case atStart => exact HST.out
        case round =>
          obtain ⟨t, acc, rfl, inv⟩ := hrel
          have HJ := Lib.hid inv
          have hta := inv.ht
          have htl := inv.len
          clear inv HST
          by_cases hgt : k + 1 < t
          · obtain ⟨s, hs⟩ : ∃ s, t = s + 1 := ⟨t - 1, by omega⟩
            have hall := HJ.out.all
            rw [hs, dropsO_in (by omega)] at hall
            have hall2 : (acc ++ [dropO p s]) ++ dropsO p (k + 1) s = dropsO p (k + 1) n := by rw [List.append_assoc]; exact hall
            have HAL := Lib.hid hall2
            have H7 := Lib.hid (fun w => rwname_at ((t : Int) - 1) s (by omega) p (by omega) (by omega) w)
            have hti : (k : Int) < (t : Int) - 1 := by omega
            have HS9 := Lib.hid hs
            clear hall hall2 hs
            go_wp2_with fail
            refine (H7.out _).mono ?_
            rintro e w8 ⟨rfl, g8⟩
            have HO8 := Lib.hid (HJ.out.own.gr g8)
            have HSO8 := Lib.hid (HJ.out.so.gr g8)
            have HG8 := Lib.hid (HJ.out.gr.trans g8)
            clear g8
            go_wp2_with (at_builtin; refine wpList_push_op (w0 := w2) rfl (.tmp 54) (.tmp 59) rfl _ acc (dropO p s) rfl HO8.out _ rfl rfl (by omega) HG8.out ?_; intro A9 c9 w9 hown9 g9 k9)
            have HSO9 := Lib.hid (so_grown (HSO8.out.gr (gr_box w8 _)) (HO8.out.gr (gr_box w8 _)) k9)
            have HO9 := Lib.hid hown9
            have HG9 := Lib.hid g9
            clear hown9 g9 k9
            go_roundw
            case rel => exact ⟨s, acc ++ [dropO p s], by rw [HS9.out]; go_num, by have := HS9.out; omega, HAL.out, by have := HS9.out; rw [List.length_append]; simp only [List.length_cons, List.length_nil]; omega, HO9.out, HSO9.out, HG9.out⟩
            case measure => simp [intOf]; omega
          · have hall := HJ.out.all
            rw [dropsO_out (by omega), List.append_nil] at hall
            have HAL := Lib.hid hall
            have hti : ¬ (k : Int) < (t : Int) - 1 := by omega
            clear hall
            go_wp2_with fail
            refine (H6.out _).mono ?_
            rintro e w8 ⟨rfl, g8⟩
            have HO8 := Lib.hid (HJ.out.own.gr g8)
            have HSO8 := Lib.hid (HJ.out.so.gr g8)
            have HG8 := Lib.hid (HJ.out.gr.trans g8)
            clear g8
            go_wp2_with (at_builtin; refine wpList_push_op (w0 := w2) rfl (.tmp 61) (.tmp 67) rfl _ acc (cutO p k m) rfl HO8.out _ rfl rfl (by omega) HG8.out ?_; intro A9 c9 w9 hown9 g9 k9)
            have HSO9 := Lib.hid (so_grown (HSO8.out.gr (gr_box w8 _)) (HO8.out.gr (gr_box w8 _)) k9)
            have HO9 := Lib.hid hown9
            have HG9 := Lib.hid g9
            clear hown9 g9 k9
            refine bodyPost_ret (v := .tuple #[.slice A7 L7 c7, .slice A9 (acc.length + 1) c9, .int .i64 0]) (by simp [results, Tryd.results11, go_sem]) rfl ⟨_, _, rfl, ?_, ?_, HG2.out.trans HG9.out⟩
            · rw [HT.out, List.map_append]
              exact HSO9.out.le HG2.out.size
            · rw [HT.out, ← HN.out, ← HAL.out]
              exact HO9.out.le HG2.out.size
      · have hms : ¬ m < fs := fun h => ht (HDC.out.2 h)
        have ht1 : ¬ (m : Int) < (sb.size : Int) := by rw [HSS.out]; omega
        have HT := Lib.hid (fun w5 v5 ho g => op_whole (v' := v5) (w4 := w5) HI.out hkS HF.out (by rw [← HFS.out]; exact hsz) ht ho g)
        clear ht
        go_wp2_with (at_builtin; refine wpList_push_strs (w0 := w2) rfl (.tmp 40) (.tmp 41) rfl _ _ _ _ rfl HOR6.out rfl HO6.out (by rw [List.length_map, List.length_map]; omega) HG6.out ?_; intro A7 c7 w7 hown7 g7 k7)
        rw [List.length_map, List.length_map] at hown7
        have H7 := Lib.hid (HT.out _ _ hown7 g7)
        clear hown7 g7 k7
        go_roundw
        case rel => exact ⟨rfl, k + 1, R ++ recsF f, by go_num, H7.out⟩
        case measure => simp [intOf]; omega
    · have HT := Lib.hid (op_end HI.out (by rw [← HN.out]; exact hlt))
      go_wp2_with fail
      refine bodyPost_ret (v := .tuple #[_, .slice none 0 0, .int .i64 0]) (by simp [results, Tryd.results11, go_sem]; rfl) rfl ⟨_, _, rfl, ?_, ?_, HG2.out.trans HI.out.g2⟩
      · rw [HT.out]
        exact HI.out.own.le HG2.out.size
      · rw [HT.out]
        exact OO.nil _ _
theorem ropen_no (v : Value) (p : ByteArray) (w : World) (hp : prefixB p = false) (hps : p.size ≤ 9223372036854775807) (hv : ∃ A n c, v = .slice A n c) :
    Calls Tryd.prog 11 #[.agg #[v], .string p] w fun e w' => RetOpen [] [] 1 w e w' := by
  have h1 := fun w => rprefix_any p hps w
  rw [hp] at h1
  have H1 := Lib.hid h1
  obtain ⟨A, n, c, rfl⟩ := hv
  have HG := Lib.hid (gr_box w (.cells #[.slice A n c] 24))
  clear h1 hp
  go_enter Tryd.func11, Tryd.ntmps11
  go_wp2_with fail
  refine (H1.out _).mono ?_
  rintro e w1 ⟨rfl, rfl⟩
  go_wp2_with fail
  refine bodyPost_ret (v := .tuple #[.slice none 0 0, .slice none 0 0, .int .i64 1]) (by simp [results, Tryd.results11, go_sem]) rfl ⟨_, _, rfl, SO.nil _ _, OO.nil _ _, HG.out⟩
end Go.Proofs.YtmkcgnljankmdaaDoor
