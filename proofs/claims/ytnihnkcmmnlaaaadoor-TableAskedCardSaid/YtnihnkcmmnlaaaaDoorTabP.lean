/- The law TableAsked. -/
import Derived.Test.YtnihnkcmmnlaaaaDoorTabO
import Derived.Deep.DeepCutAuto
namespace Go.Proofs.YtnihnkcmmnlaaaaDoor
open Go.RowKit

def seen (L : List PR) (a : ByteArray) (k : Nat) : Bool := (L.take k).any fun p => eqS p.key a
theorem seen_succ {L : List PR} {a : ByteArray} {k : Nat} (h : k < L.length) : seen L a (k + 1) = (seen L a k || eqS L[k].key a) := by
  unfold seen
  rw [List.take_succ_eq_append_getElem h, List.any_append]
  simp
theorem seen_all {L : List PR} (hr : rises L) (a : ByteArray) : seen L a L.length = (getR L a).isSome := by
  unfold seen
  rw [List.take_length]
  rw [Bool.eq_iff_iff, get_iff hr, List.any_eq_true]
  constructor
  · rintro ⟨p, hp, he⟩
    obtain ⟨i, hi, rfl⟩ := List.mem_iff_getElem.1 hp
    exact ⟨i, hi, eqS_iff.1 he⟩
  · rintro ⟨i, hi, rfl⟩
    exact ⟨_, List.getElem_mem hi, eqS_self _⟩
def AskRel (L : List PR) (a : ByteArray) (w : World) (f i : Value) (wr : World) : Prop := ∃ k : Nat, k ≤ L.length ∧ i = .int .i64 (k : Int) ∧ f = .bool (seen L a k) ∧ Gr w wr

/-- What '>' of strings looks at. -/
theorem gtr_ways (a b : ByteArray) : (lessS b a = true ∧ Go.Op.bytesLess a.toList b.toList = false ∧ (a.toList == b.toList) = false) ∨ (lessS b a = false ∧ Go.Op.bytesLess a.toList b.toList = true) ∨ (lessS b a = false ∧ Go.Op.bytesLess a.toList b.toList = false ∧ (a.toList == b.toList) = true) := by
  rcases lessS_total a b with h | h | h
  · exact .inr (.inl ⟨lessS_asymm h, h⟩)
  · subst h
    exact .inr (.inr ⟨lessS_irrefl a, lessS_irrefl a, eqS_self a⟩)
  · exact .inl ⟨h, lessS_asymm h, eqS_ne (lessS_ne h).symm⟩
set_option maxRecDepth 100000 in
set_option maxHeartbeats 4000000 in
theorem asked6_law (v : Value) (L : List PR) (a b c : ByteArray) (w : World) (hv : PV w v L) (hlen : L.length * 32 ≤ 140737488355328) (hmax : ∀ p ∈ L, p.key.size ≤ 281474976710656 ∧ p.val.size ≤ 281474976710656) (hH : Halves w) :
    Calls Tryd.prog 6 #[v, .string a, .string b, .string c] w fun e w' => e = .returned (.bool true) ∧ Gr w w' := by
  have HV := Lib.hid hv
  obtain ⟨A, cc, rfl, l1, ⟨l2, _⟩, l3⟩ := hv
  have hc63 : cc ≤ 9223372036854775807 := l2
  have HP := Lib.hid l3
  have H0 := Lib.hid (awake6_any w hH)
  have HBL := Lib.hid (fun (v1 : Value) (w1 : World) (hv : PV w1 v1 L) (g : Gr w w1) => build_any v1 L w1 hv hmax (hH.gr g))
  have HH := Lib.hid hH
  obtain ⟨n, hn⟩ : ∃ n, n = L.length := ⟨_, rfl⟩
  rw [← hn] at HV hlen l1 ⊢
  have HN := Lib.hid hn
  clear hmax hH hn l2 l3
  by_cases hok : okTab L
  · rw [buildR_ok hok] at HBL
    have HRS := Lib.hid hok.2.1
    have hn1 : n ≤ 1024 := by rw [HN.out]; exact hok.1
    have HGT := Lib.hid (fun (k : ByteArray) (w1 : World) (g : Gr w w1) => by
      have := get_any (bs (tabL L)) k (Nat.le_trans (tab_size hok) (by unfold maxLen; omega)) w1 (HH.out.gr g)
      rw [show (bs (tabL L)).data.toList = tabL L from rfl, allR_tab hok] at this
      exact this)
    have HRG := Lib.hid (fun (x y : ByteArray) (w1 : World) (g : Gr w w1) => by
      have := range_any (bs (tabL L)) x y (Nat.le_trans (tab_size hok) (by unfold maxLen; omega)) w1 (HH.out.gr g)
      rw [show (bs (tabL L)).data.toList = tabL L from rfl, allR_tab hok] at this
      exact this)
    obtain ⟨T, hT⟩ : ∃ T, T = bs (tabL L) := ⟨_, rfl⟩
    rw [← hT] at HBL HGT HRG
    clear hok hT
    go_enter Tryd.func6, Tryd.ntmps6
    go_wp2_with fail
    refine H0.out.mono ?_
    rintro e w1 ⟨rfl, g1⟩
    have HV1 := Lib.hid (HV.out.gr g1)
    have HG1 := Lib.hid g1
    clear g1
    go_wp2_with (at_builtin; refine wpList_copy_pv rfl (.tmp 28) (.tmp 29) rfl rfl (.slice A n cc) L n HN.out rfl HV1.out hlen ?_)
    intro A2 c2 w2 hp2 g2
    have HP2 := Lib.hid hp2.pv
    have HG2 := Lib.hid (HG1.out.trans g2)
    clear hp2 g2
    go_wp2_with fail
    refine (HBL.out _ _ HP2.out HG2.out).mono ?_
    rintro e w3 ⟨rfl, g3⟩
    have HG3 := Lib.hid (HG2.out.trans g3)
    clear g3
    go_wp2_with fail
    go_loopw [11, 12] (fun f i wr => AskRel L a w f i wr) (fun _ i _ => n - (intOf i).toNat)
    case atStart => exact ⟨0, Nat.zero_le _, rfl, rfl, HG3.out⟩
    case round =>
      obtain ⟨k, hk, rfl, rfl, hgr⟩ := hrel
      rw [← HN.out] at hk
      have HGR := Lib.hid hgr
      by_cases hlt : k < n
      · have hkL : k < L.length := by rw [← HN.out]; exact hlt
        obtain ⟨bb, off, rfl, q0, q1⟩ := HP.out k hkL
        have HG4 := Lib.hid (HGT.out L[k].key)
        rw [getVal_some (get_found HRS.out hkL)] at HG4
        have HSE := Lib.hid (seen_succ (a := a) hkL)
        obtain ⟨x, hx⟩ : ∃ x, x = L[k].key := ⟨_, rfl⟩
        obtain ⟨y, hy⟩ : ∃ y, y = L[k].val := ⟨_, rfl⟩
        rw [← hx] at HSE
        rw [← hx, ← hy] at HG4
        rw [← hx] at q0
        rw [← hy] at q1
        have HQ0 := Lib.hid q0
        have HQ1 := Lib.hid q1
        have c0 := hgr.cell q0
        have t0 : (0 : Int) ≤ (k : Int) := by omega
        have t1 : (k : Int) < (n : Int) := by omega
        have hyy : (y.toList == y.toList) = true := eqS_self y
        obtain ⟨sk, hsk⟩ : ∃ s, s = seen L a k := ⟨_, rfl⟩
        rw [← hsk] at HSE ⊢
        obtain ⟨xa, hxa⟩ : ∃ r, r = eqS x a := ⟨_, rfl⟩
        rw [← hxa] at HSE
        have hxa2 : (x.toList == a.toList) = xa := hxa.symm
        clear hx hy q0 q1 hgr hsk hxa
        go_wp2_with fail
        refine (HG4.out _ HGR.out).mono ?_
        rintro e w4 ⟨rfl, g4⟩
        have HG5 := Lib.hid (HGR.out.trans g4)
        have c0 := HG5.out.cell HQ0.out
        have c1' := HG5.out.cell HQ1.out
        clear g4
        rcases sk with _ | _
        all_goals
          go_wp2_with fail
          go_roundw
          case rel => exact ⟨k + 1, by rw [← HN.out]; omega, by go_num, by rw [HSE.out]; rfl, HG5.out⟩
          case measure => simp [intOf]; omega
      · have hke : k = L.length := by rw [← HN.out]; omega
        subst hke
        rw [seen_all HRS.out a]
        have HGA := Lib.hid (HGT.out a)
        have hlt3 : ¬ ((L.length : Nat) : Int) < (n : Int) := by omega
        have HB := Lib.hid (gtr_ways a b)
        have HC := Lib.hid (gtr_ways b c)
        have HADD := Lib.hid (fun (h1 : lessS b a = false) (h2 : lessS c b = false) => psameB_yes (range_add L h1 h2))
        have hr1 : (rangeR L a b).length ≤ n := by unfold rangeR; rw [List.length_drop, List.length_take, ← HN.out]; omega
        have hr2 : (rangeR L b c).length ≤ n := by unfold rangeR; rw [List.length_drop, List.length_take, ← HN.out]; omega
        clear hgr hlt
        obtain ⟨X, fd, hfd, hval⟩ : ∃ X fd, (getR L a).isSome = fd ∧ getVal (some L) a = .tuple #[.string X, .bool fd, .int .i64 0] := by
          rcases hga : getR L a with _ | x
          · exact ⟨_, false, rfl, getVal_not hga⟩
          · exact ⟨_, true, rfl, getVal_some hga⟩
        rw [hval] at HGA
        rw [hfd]
        clear hfd hval
        go_wp2_with fail
        refine (HGA.out _ HGR.out).mono ?_
        rintro e w4 ⟨rfl, g4⟩
        have HG4 := Lib.hid (HGR.out.trans g4)
        clear g4
        have hne : (fd != fd) = false := by simp
        rcases HB.out with ⟨q1, p1, p2⟩ | ⟨q1, p1⟩ | ⟨q1, p1, p2⟩
        · go_wp2_with fail
          go_ret
          exact ⟨rfl, HG4.out⟩
        · rcases HC.out with ⟨r1, s1, s2⟩ | ⟨r1, s1⟩ | ⟨r1, s1, s2⟩
          · go_wp2_with fail
            go_ret
            exact ⟨rfl, HG4.out⟩
          all_goals
            go_wp2_with fail
            refine (HRG.out a b _ HG4.out).mono ?_
            rintro e w5 ⟨v5, rfl, hp5, g5⟩
            have HP5 := Lib.hid hp5
            have HG45 := Lib.hid g5
            obtain ⟨A5, c5, e5⟩ := pv_form hp5
            obtain ⟨n5, hn5⟩ : ∃ q, q = (rangeR L a b).length := ⟨_, rfl⟩
            rw [← hn5] at e5 hr1
            subst e5
            have HN5 := Lib.hid hn5
            have HG5 := Lib.hid (HG4.out.trans g5)
            clear hp5 g5 hn5
            go_wp2_with fail
            refine (HRG.out b c _ HG5.out).mono ?_
            rintro e w6 ⟨v6, rfl, hp6, g6⟩
            have HP6 := Lib.hid hp6
            obtain ⟨A6, c6, e6⟩ := pv_form hp6
            obtain ⟨n6, hn6⟩ : ∃ q, q = (rangeR L b c).length := ⟨_, rfl⟩
            rw [← hn6] at e6 hr2
            subst e6
            have HN6 := Lib.hid hn6
            have HP56 := Lib.hid (HP5.out.gr g6)
            have HG6 := Lib.hid (HG5.out.trans g6)
            clear hp6 g6 hn6
            go_wp2_with fail
            refine (HRG.out a c _ HG6.out).mono ?_
            rintro e w7 ⟨v7, rfl, hp7, g7⟩
            have HP7 := Lib.hid hp7
            have HP57 := Lib.hid (HP56.out.gr g7)
            have HP67 := Lib.hid (HP6.out.gr g7)
            have HG7 := Lib.hid (HG6.out.trans g7)
            clear hp7 g7
            go_wp2_with (at_builtin; refine wpList_copy_pv (by simp [Region.wanted, yielded]) (.tmp 126) (.tmp 127) rfl rfl (.slice A5 n5 c5) (rangeR L a b) n5 HN5.out rfl HP57.out (by omega) ?_)
            intro A8 c8 w8 hp8 g8
            have HP8 := Lib.hid hp8
            have HP68 := Lib.hid (HP67.out.gr g8)
            have HG8 := Lib.hid g8
            clear hp8 g8
            go_wp2_with (at_builtin; refine wpList_push_pv (w0 := w7) (by simp [Region.wanted, yielded]) (.tmp 128) (.tmp 129) rfl (.slice A8 n5 c8) (.slice A6 n6 c6) (rangeR L a b) (rangeR L b c) n5 n6 HN5.out HN6.out rfl HP8.out rfl HP68.out (by omega) HG8.out ?_)
            intro A9 c9 w9 hp9 g9
            have HP9 := Lib.hid hp9.pv
            have HP79 := Lib.hid (HP7.out.gr g9)
            have HG9 := Lib.hid (HG7.out.trans g9)
            have HSM := Lib.hid (psame_any _ _ _ _ w9 HP9.out HP79.out)
            rw [HADD.out q1 r1] at HSM
            clear hp9 g9
            go_wp2_with fail
            refine HSM.out.mono ?_
            rintro e w10 ⟨rfl, g10⟩
            have HG10 := Lib.hid (HG9.out.trans g10)
            clear g10
            go_wp2_with fail
            go_ret
            exact ⟨rfl, HG10.out⟩
        · rcases HC.out with ⟨r1, s1, s2⟩ | ⟨r1, s1⟩ | ⟨r1, s1, s2⟩
          · go_wp2_with fail
            go_ret
            exact ⟨rfl, HG4.out⟩
          all_goals
            go_wp2_with fail
            refine (HRG.out a b _ HG4.out).mono ?_
            rintro e w5 ⟨v5, rfl, hp5, g5⟩
            have HP5 := Lib.hid hp5
            have HG45 := Lib.hid g5
            obtain ⟨A5, c5, e5⟩ := pv_form hp5
            obtain ⟨n5, hn5⟩ : ∃ q, q = (rangeR L a b).length := ⟨_, rfl⟩
            rw [← hn5] at e5 hr1
            subst e5
            have HN5 := Lib.hid hn5
            have HG5 := Lib.hid (HG4.out.trans g5)
            clear hp5 g5 hn5
            go_wp2_with fail
            refine (HRG.out b c _ HG5.out).mono ?_
            rintro e w6 ⟨v6, rfl, hp6, g6⟩
            have HP6 := Lib.hid hp6
            obtain ⟨A6, c6, e6⟩ := pv_form hp6
            obtain ⟨n6, hn6⟩ : ∃ q, q = (rangeR L b c).length := ⟨_, rfl⟩
            rw [← hn6] at e6 hr2
            subst e6
            have HN6 := Lib.hid hn6
            have HP56 := Lib.hid (HP5.out.gr g6)
            have HG6 := Lib.hid (HG5.out.trans g6)
            clear hp6 g6 hn6
            go_wp2_with fail
            refine (HRG.out a c _ HG6.out).mono ?_
            rintro e w7 ⟨v7, rfl, hp7, g7⟩
            have HP7 := Lib.hid hp7
            have HP57 := Lib.hid (HP56.out.gr g7)
            have HP67 := Lib.hid (HP6.out.gr g7)
            have HG7 := Lib.hid (HG6.out.trans g7)
            clear hp7 g7
            go_wp2_with (at_builtin; refine wpList_copy_pv (by simp [Region.wanted, yielded]) (.tmp 126) (.tmp 127) rfl rfl (.slice A5 n5 c5) (rangeR L a b) n5 HN5.out rfl HP57.out (by omega) ?_)
            intro A8 c8 w8 hp8 g8
            have HP8 := Lib.hid hp8
            have HP68 := Lib.hid (HP67.out.gr g8)
            have HG8 := Lib.hid g8
            clear hp8 g8
            go_wp2_with (at_builtin; refine wpList_push_pv (w0 := w7) (by simp [Region.wanted, yielded]) (.tmp 128) (.tmp 129) rfl (.slice A8 n5 c8) (.slice A6 n6 c6) (rangeR L a b) (rangeR L b c) n5 n6 HN5.out HN6.out rfl HP8.out rfl HP68.out (by omega) HG8.out ?_)
            intro A9 c9 w9 hp9 g9
            have HP9 := Lib.hid hp9.pv
            have HP79 := Lib.hid (HP7.out.gr g9)
            have HG9 := Lib.hid (HG7.out.trans g9)
            have HSM := Lib.hid (psame_any _ _ _ _ w9 HP9.out HP79.out)
            rw [HADD.out q1 r1] at HSM
            clear hp9 g9
            go_wp2_with fail
            refine HSM.out.mono ?_
            rintro e w10 ⟨rfl, g10⟩
            have HG10 := Lib.hid (HG9.out.trans g10)
            clear g10
            go_wp2_with fail
            go_ret
            exact ⟨rfl, HG10.out⟩
  · obtain ⟨er, hor, hb⟩ := bad_nat hok
    rw [hb] at HBL
    have he : ((⟨#[]⟩ : ByteArray).toList == []) = true := by rw [ByteArray.toList_eq]; rfl
    clear hok hb
    rcases hor with rfl | rfl
    all_goals
      go_enter Tryd.func6, Tryd.ntmps6
      go_wp2_with fail
      refine H0.out.mono ?_
      rintro e w1 ⟨rfl, g1⟩
      have HV1 := Lib.hid (HV.out.gr g1)
      have HG1 := Lib.hid g1
      clear g1
      go_wp2_with (at_builtin; refine wpList_copy_pv rfl (.tmp 28) (.tmp 29) rfl rfl (.slice A n cc) L n HN.out rfl HV1.out hlen ?_)
      intro A2 c2 w2 hp2 g2
      have HP2 := Lib.hid hp2.pv
      have HG2 := Lib.hid (HG1.out.trans g2)
      clear hp2 g2
      go_wp2_with fail
      refine (HBL.out _ _ HP2.out HG2.out).mono ?_
      rintro e w3 ⟨rfl, g3⟩
      have HG3 := Lib.hid (HG2.out.trans g3)
      clear g3
      go_wp2_with fail
      go_ret
      exact ⟨rfl, HG3.out⟩
end Go.Proofs.YtnihnkcmmnlaaaaDoor
