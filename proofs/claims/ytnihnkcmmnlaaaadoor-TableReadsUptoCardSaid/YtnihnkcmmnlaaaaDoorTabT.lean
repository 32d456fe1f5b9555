/- Walks: Get, Range, the document's; the law TableReads. -/
import Derived.Test.YtnihnkcmmnlaaaaDoorTabS
import Derived.Test.YtnihnkcmmnlaaaaDoorTabJ
namespace Go.Proofs.YtnihnkcmmnlaaaaDoor
open Go.RowKit

theorem get_absent {L : List PR} (h : rises L) {key : ByteArray} (hn : ∀ q (hq : q < L.length), L[q].key ≠ key) : getR L key = none := by
  cases hg : getR L key with
  | none => rfl
  | some x =>
    obtain ⟨i, hi, hk⟩ := (get_iff h key).1 (by rw [hg]; rfl)
    exact absurd hk (hn i hi)
def RGRel (L : List PR) (key : ByteArray) (w : World) (i : Value) (wr : World) : Prop := ∃ j : Nat, j ≤ L.length ∧ i = .int .i64 (j : Int) ∧ (∀ q (_ : q < j) (hq : q < L.length), L[q].key ≠ key) ∧ Gr w wr
set_option maxRecDepth 100000 in
set_option maxHeartbeats 1000000 in
theorem rget_any (s key : ByteArray) (hs : s.size ≤ 1048576) (w : World) :
    Calls Tryd.prog 16 #[.string s, .string key] w fun e w' => e = .returned (getVal (allR s.data.toList) key) ∧ Gr w w' := by
  have H1 := Lib.hid (rall_any s hs w)
  clear hs
  rcases hi : allR s.data.toList with _ | L
  · rw [hi] at H1
    have HG := Lib.hid (getVal_none key)
    clear hi
    go_enter Tryd.func16, Tryd.ntmps16
    go_wp2_with fail
    refine H1.out.mono ?_
    rintro e w1 ⟨rfl, g1⟩
    go_wp2_with fail
    go_ret3
    rw [HG.out]
    exact ⟨rfl, g1⟩
  · rw [hi] at H1
    have HR := Lib.hid (allR_rises hi)
    have hl := (allR_back hi).1.1
    obtain ⟨n, hn⟩ : ∃ n, n = L.length := ⟨_, rfl⟩
    have HN := Lib.hid hn
    rw [← hn] at hl
    clear hi hn
    go_enter Tryd.func16, Tryd.ntmps16
    go_wp2_with fail
    refine H1.out.mono ?_
    rintro e w1 ⟨v1, rfl, hp1, hsm, g1⟩
    have HG1 := Lib.hid g1
    obtain ⟨A1, c1, rfl, l1, ⟨l2, _⟩, l3⟩ := hp1
    have hc63 : c1 ≤ 9223372036854775807 := l2
    have HP := Lib.hid l3
    rw [← HN.out] at l1
    rw [← HN.out]
    clear hsm g1 l2 l3
    go_wp2_with fail
    go_loopw [9] (fun i wr => RGRel L key w1 i wr) (fun i _ => n - (intOf i).toNat)
    case atStart => exact ⟨0, Nat.zero_le _, rfl, fun q h => absurd h (Nat.not_lt_zero _), Gr.refl _⟩
    case round =>
      obtain ⟨j, hj, rfl, hall, hgr⟩ := hrel
      rw [← HN.out] at hj
      have HAL := Lib.hid hall
      have HGR := Lib.hid hgr
      clear hall
      by_cases hlt : j < n
      · have hjL : j < L.length := by rw [← HN.out]; exact hlt
        obtain ⟨b, off, rfl, q0, q1⟩ := HP.out j hjL
        have t0 : (0 : Int) ≤ (j : Int) := by omega
        have t1 : (j : Int) < (n : Int) := by omega
        by_cases hk : L[j].key = key
        · have HGV : Hid (getVal (some L) key = .tuple #[.string L[j].val, .bool true, .int .i64 0]) := Lib.hid (getVal_some (by
            have h1 := get_found HR.out hjL
            rwa [hk] at h1))
          obtain ⟨x, hx⟩ : ∃ x, x = L[j].key := ⟨_, rfl⟩
          obtain ⟨y, hy⟩ : ∃ y, y = L[j].val := ⟨_, rfl⟩
          rw [← hy] at HGV
          have heq : (x.toList == key.toList) = true := by rw [hx, hk]; exact eqS_self key
          rw [← hx] at q0
          rw [← hy] at q1
          have c0 := hgr.cell q0
          have c1' := hgr.cell q1
          clear hx hy hk q0 q1 hgr
          go_wp2_with fail
          go_ret3
          rw [HGV.out]
          exact ⟨rfl, HG1.out.trans HGR.out⟩
        · obtain ⟨x, hx⟩ : ∃ x, x = L[j].key := ⟨_, rfl⟩
          have heq : (x.toList == key.toList) = false := by rw [hx]; exact eqS_ne hk
          rw [← hx] at q0
          have c0 := hgr.cell q0
          have HA2 : Hid (∀ q (_ : q < j + 1) (hq : q < L.length), L[q].key ≠ key) := Lib.hid (fun q h hq => by
            rcases Nat.lt_or_ge q j with e | e
            · exact HAL.out q e hq
            · obtain rfl : q = j := by omega
              exact hk)
          clear hx hk q0 q1 hgr
          go_wp2_with fail
          go_roundw
          case rel => exact ⟨j + 1, by rw [← HN.out]; omega, by go_num, HA2.out, HGR.out⟩
          case measure => simp [intOf]; omega
      · have HGV : Hid (getVal (some L) key = .tuple #[.string ⟨#[]⟩, .bool false, .int .i64 0]) := Lib.hid (getVal_not (get_absent HR.out (fun q hq => HAL.out q (by rw [← HN.out] at hq; omega) hq)))
        clear hgr
        go_wp2_with fail
        go_ret3
        rw [HGV.out]
        exact ⟨rfl, HG1.out.trans HGR.out⟩

def RRRel (L : List PR) (a b : ByteArray) (w : World) (o i : Value) (wr : World) : Prop := ∃ j : Nat, j ≤ L.length ∧ i = .int .i64 (j : Int) ∧ PO wr w.heap.size o ((L.take j).filter (inR a b)) ∧ Gr w wr
theorem filter_succ {L : List PR} {a b : ByteArray} {j : Nat} (h : j < L.length) : (L.take (j + 1)).filter (inR a b) = (L.take j).filter (inR a b) ++ (if inR a b L[j] then [L[j]] else []) := by
  rw [List.take_succ_eq_append_getElem h, List.filter_append]
  congr 1
  cases hi : inR a b L[j] <;> simp [hi]
set_option maxRecDepth 100000 in
set_option maxHeartbeats 1000000 in
theorem rrange_any (s a b : ByteArray) (hs : s.size ≤ 1048576) (w : World) :
    Calls Tryd.prog 18 #[.string s, .string a, .string b] w fun e w' => RetRange (allR s.data.toList) a b w e w' := by
  have H1 := Lib.hid (rall_any s hs w)
  clear hs
  rcases hi : allR s.data.toList with _ | L
  · rw [hi] at H1
    clear hi
    go_enter Tryd.func18, Tryd.ntmps18
    go_wp2_with fail
    refine H1.out.mono ?_
    rintro e w1 ⟨rfl, g1⟩
    go_wp2_with fail
    go_ret2
    exact ⟨rfl, g1⟩
  · rw [hi] at H1
    have HRG := Lib.hid (range_filter a b L (allR_rises hi))
    have hl := (allR_back hi).1.1
    obtain ⟨n, hn⟩ : ∃ n, n = L.length := ⟨_, rfl⟩
    have HN := Lib.hid hn
    rw [← hn] at hl
    clear hi hn
    go_enter Tryd.func18, Tryd.ntmps18
    go_wp2_with fail
    refine H1.out.mono ?_
    rintro e w1 ⟨v1, rfl, hp1, hsm, g1⟩
    have HG1 := Lib.hid g1
    obtain ⟨A1, c1, rfl, l1, ⟨l2, _⟩, l3⟩ := hp1
    have hc63 : c1 ≤ 9223372036854775807 := l2
    have HP := Lib.hid l3
    rw [← HN.out] at l1
    rw [← HN.out]
    clear hsm g1 l2 l3
    go_wp2_with fail
    go_loopw [10, 11] (fun o i wr => RRRel L a b w1 o i wr) (fun _ i _ => n - (intOf i).toNat)
    case atStart => exact ⟨0, Nat.zero_le _, rfl, PO.nil _ _, Gr.refl _⟩
    case round =>
      obtain ⟨j, hj, rfl, hpo, hgr⟩ := hrel
      rw [← HN.out] at hj
      have HPO := Lib.hid hpo
      have HGR := Lib.hid hgr
      obtain ⟨A3, c3, rfl, -, -⟩ := own_form hpo
      obtain ⟨nf, hnf⟩ : ∃ q, q = ((L.take j).filter (inR a b)).length := ⟨_, rfl⟩
      have hnl : nf ≤ j := by
        rw [hnf]
        refine Nat.le_trans (List.length_filter_le _ _) ?_
        rw [List.length_take]
        omega
      rw [← hnf] at HPO ⊢
      have HNF := Lib.hid hnf
      clear hpo hnf
      by_cases hlt : j < n
      · have hjL : j < L.length := by rw [← HN.out]; exact hlt
        obtain ⟨bb, off, rfl, q0, q1⟩ := HP.out j hjL
        have t0 : (0 : Int) ≤ (j : Int) := by omega
        have t1 : (j : Int) < (n : Int) := by omega
        have HFS := Lib.hid (filter_succ (a := a) (b := b) hjL)
        unfold inR at HFS
        obtain ⟨x, hx⟩ : ∃ x, x = L[j].key := ⟨_, rfl⟩
        obtain ⟨y, hy⟩ : ∃ y, y = L[j].val := ⟨_, rfl⟩
        have HE : Hid (L[j] = ⟨x, y⟩) := Lib.hid (by rw [hx, hy])
        rw [HE.out] at HFS
        rw [← hx] at q0
        rw [← hy] at q1
        have c0 := hgr.cell q0
        have c1' := hgr.cell q1
        clear hx hy q0 q1 hgr
        rcases h1 : lessS x a with _ | _
        · rcases h2 : lessS x b with _ | _
          · have p1 : Go.Op.bytesLess x.toList a.toList = false := h1
            have p2 : Go.Op.bytesLess x.toList b.toList = false := h2
            have HF2 : Hid ((L.take (j + 1)).filter (inR a b) = (L.take j).filter (inR a b)) := Lib.hid (by
              unfold inR
              rw [HFS.out]
              simp [h1, h2])
            clear h1 h2
            go_wp2_with fail
            go_roundw
            case rel => exact ⟨j + 1, by rw [← HN.out]; omega, by go_num, by rw [HF2.out]; exact HPO.out, HGR.out⟩
            case measure => simp [intOf]; omega
          · have p1 : Go.Op.bytesLess x.toList a.toList = false := h1
            have p2 : Go.Op.bytesLess x.toList b.toList = true := h2
            have HF2 : Hid ((L.take (j + 1)).filter (inR a b) = (L.take j).filter (inR a b) ++ [⟨x, y⟩]) := Lib.hid (by
              unfold inR
              rw [HFS.out]
              simp [h1, h2])
            clear h1 h2
            go_wp2_with (at_builtin; refine wpList_push_pv (w0 := w1) rfl (.tmp 42) (.tmp 47) rfl (.slice A3 nf c3) (.slice (some ⟨wr.heap.size, 0, none⟩) 1 1) ((L.take j).filter (inR a b)) [⟨x, y⟩] nf 1 HNF.out rfl rfl (HPO.out.gr (gr_box _ _)) rfl (pv_one _ _ _ _ rfl) (by omega) (HGR.out.alloc _) ?_)
            intro A5 c5 w5 hp5 g5
            have HP5 := Lib.hid hp5
            have HG5 := Lib.hid g5
            clear hp5 g5 c0 c1'
            go_wp2
            go_roundw
            case rel => exact ⟨j + 1, by rw [← HN.out]; omega, by go_num, by rw [HF2.out]; exact HP5.out, HG5.out⟩
            case measure => simp [intOf]; omega
        · have p1 : Go.Op.bytesLess x.toList a.toList = true := h1
          have HF2 : Hid ((L.take (j + 1)).filter (inR a b) = (L.take j).filter (inR a b)) := Lib.hid (by
            unfold inR
            rw [HFS.out]
            simp [h1])
          clear h1
          go_wp2_with fail
          go_roundw
          case rel => exact ⟨j + 1, by rw [← HN.out]; omega, by go_num, by rw [HF2.out]; exact HPO.out, HGR.out⟩
          case measure => simp [intOf]; omega
      · have hjn : j = L.length := by rw [← HN.out]; omega
        have HF2 : Hid ((L.take j).filter (inR a b) = rangeR L a b) := Lib.hid (by rw [HRG.out, hjn, List.take_length])
        clear hgr hjn
        go_wp2_with fail
        go_ret2
        refine ⟨_, rfl, ?_, HG1.out.trans HGR.out⟩
        rw [← HF2.out]
        exact HPO.out.pv

/-! the law -/
def ec (o : Option (List PR)) : Int := match o with
  | none => 60
  | some _ => 0
theorem RetAll.uni {o : Option (List PR)} {w w' : World} {e : Ending} (h : RetAll o w e w') : ∃ v, e = .returned (.tuple #[v, .int .i64 (ec o)]) ∧ PV w' v (o.getD []) ∧ Gr w w' := by
  cases o with
  | none => exact ⟨_, h.1, PV.nil _, h.2⟩
  | some L =>
    obtain ⟨v, h1, h2, _, h3⟩ := h
    exact ⟨v, h1, h2, h3⟩
def rangeO (o : Option (List PR)) (a b : ByteArray) : List PR := match o with
  | none => []
  | some L => rangeR L a b
theorem RetRange.uni {o : Option (List PR)} {a b : ByteArray} {w w' : World} {e : Ending} (h : RetRange o a b w e w') : ∃ v, e = .returned (.tuple #[v, .int .i64 (ec o)]) ∧ PV w' v (rangeO o a b) ∧ Gr w w' := by
  cases o with
  | none => exact ⟨_, h.1, PV.nil _, h.2⟩
  | some L =>
    obtain ⟨v, h1, h2, h3⟩ := h
    exact ⟨v, h1, h2, h3⟩
theorem getVal_uni (o : Option (List PR)) (key : ByteArray) : ∃ (X : ByteArray) (fd : Bool) (er : Int), getVal o key = .tuple #[.string X, .bool fd, .int .i64 er] := by
  cases o with
  | none => exact ⟨_, _, _, rfl⟩
  | some L =>
    cases h : getR L key with
    | none => exact ⟨_, _, _, getVal_not h⟩
    | some x => exact ⟨_, _, _, getVal_some h⟩
set_option maxRecDepth 100000 in
set_option maxHeartbeats 1000000 in
theorem reads6_law (s key a b : ByteArray) (hs : s.size ≤ 1048576) (w : World) (hH : Halves w) :
    Calls Tryd.prog 4 #[.string s, .string key, .string a, .string b] w fun e w' => e = .returned (.bool true) ∧ Gr w w' := by
  have hm : s.size ≤ maxLen := by unfold maxLen; omega
  have H0 := Lib.hid (awake6_any w hH)
  have HA := Lib.hid (fun (w1 : World) (g : Gr w w1) => (all_any s hm w1 (hH.gr g)).mono fun e w' h => h.uni)
  have HRA := Lib.hid (fun (w1 : World) => (rall_any s hs w1).mono fun e w' h => h.uni)
  have HGT := Lib.hid (fun (w1 : World) (g : Gr w w1) => get_any s key hm w1 (hH.gr g))
  have HRGT := Lib.hid (fun (w1 : World) => rget_any s key hs w1)
  have HR := Lib.hid (fun (w1 : World) (g : Gr w w1) => (range_any s a b hm w1 (hH.gr g)).mono fun e w' h => h.uni)
  have HRR := Lib.hid (fun (w1 : World) => (rrange_any s a b hs w1).mono fun e w' h => h.uni)
  obtain ⟨o, ho⟩ : ∃ o, o = allR s.data.toList := ⟨_, rfl⟩
  rw [← ho] at HA HRA HGT HRGT HR HRR
  obtain ⟨X, fd, er, hgv⟩ := getVal_uni o key
  rw [hgv] at HGT HRGT
  obtain ⟨ea, hea⟩ : ∃ q, q = ec o := ⟨_, rfl⟩
  rw [← hea] at HA HRA HR HRR
  obtain ⟨L, hL⟩ : ∃ q, q = o.getD [] := ⟨_, rfl⟩
  rw [← hL] at HA HRA
  obtain ⟨M, hM⟩ : ∃ q, q = rangeO o a b := ⟨_, rfl⟩
  rw [← hM] at HR HRR
  have hx : (X.toList == X.toList) = true := eqS_self X
  clear hs hm hH ho hgv hea hL hM
  go_enter Tryd.func4, Tryd.ntmps4
  go_wp2_with fail
  refine H0.out.mono ?_
  rintro e w1 ⟨rfl, g1⟩
  have HG1 := Lib.hid g1
  clear g1
  go_wp2_with fail
  refine (HA.out _ HG1.out).mono ?_
  rintro e w2 ⟨v2, rfl, hp2, g2⟩
  have HP2 := Lib.hid hp2
  have HG2 := Lib.hid (HG1.out.trans g2)
  clear hp2 g2
  go_wp2_with fail
  refine (HRA.out _).mono ?_
  rintro e w3 ⟨v3, rfl, hp3, g3⟩
  have HS3 := Lib.hid (psame_any v2 v3 L L w3 (HP2.out.gr g3) hp3)
  rw [psameB_yes rfl] at HS3
  have HG3 := Lib.hid (HG2.out.trans g3)
  clear hp3 g3
  go_wp2_with fail
  refine HS3.out.mono ?_
  rintro e w4 ⟨rfl, g4⟩
  have HG4 := Lib.hid (HG3.out.trans g4)
  clear g4
  go_wp2_with fail
  refine (HGT.out _ HG4.out).mono ?_
  rintro e w5 ⟨rfl, g5⟩
  have HG5 := Lib.hid (HG4.out.trans g5)
  clear g5
  go_wp2_with fail
  refine (HRGT.out _).mono ?_
  rintro e w6 ⟨rfl, g6⟩
  have HG6 := Lib.hid (HG5.out.trans g6)
  clear g6
  go_wp2_with fail
  refine (HR.out _ HG6.out).mono ?_
  rintro e w7 ⟨v7, rfl, hp7, g7⟩
  have HP7 := Lib.hid hp7
  have HG7 := Lib.hid (HG6.out.trans g7)
  clear hp7 g7
  go_wp2_with fail
  refine (HRR.out _).mono ?_
  rintro e w8 ⟨v8, rfl, hp8, g8⟩
  have HS8 := Lib.hid (psame_any v7 v8 M M w8 (HP7.out.gr g8) hp8)
  rw [psameB_yes rfl] at HS8
  have HG8 := Lib.hid (HG7.out.trans g8)
  clear hp8 g8
  go_wp2_with fail
  refine HS8.out.mono ?_
  rintro e w9 ⟨rfl, g9⟩
  have HG9 := Lib.hid (HG8.out.trans g9)
  clear g9
  go_wp2_with fail
  go_ret
  exact ⟨rfl, HG9.out⟩
end Go.Proofs.YtnihnkcmmnlaaaaDoor
