/- Walks: All, Clone, Get, Range, the program's. -/
import Derived.Test.YtnihnkcmmnlaaaaDoorTabG
import Derived.Test.YtnihnkcmmnlaaaaDoorTabN
import Derived.Lib.SliceRun
namespace Go.Proofs.YtnihnkcmmnlaaaaDoor
open Go.RowKit

/-- What All answers. -/
def RetAll (o : Option (List PR)) (w : World) (e : Ending) (w' : World) : Prop :=
  match o with
  | none => e = .returned (.tuple #[.slice none 0 0, .int .i64 60]) ∧ Gr w w'
  | some L => ∃ v, e = .returned (.tuple #[v, .int .i64 0]) ∧ PV w' v L ∧ (∀ p ∈ L, p.key.size ≤ 65536 ∧ p.val.size ≤ 65536) ∧ Gr w w'
theorem small_big {L : List PR} (h : ∀ p ∈ L, p.key.size ≤ 65536 ∧ p.val.size ≤ 65536) : ∀ p ∈ L, p.key.size ≤ 281474976710656 ∧ p.val.size ≤ 281474976710656 := fun p hp => by have := h p hp; omega
theorem bs_eq {l : List UInt8} {s : ByteArray} : bs l = s ↔ l = s.data.toList := by
  constructor
  · rintro rfl
    rfl
  · rintro rfl
    exact bs_data s
set_option maxRecDepth 100000 in
set_option maxHeartbeats 1000000 in
theorem all_any (s : ByteArray) (hs : s.size ≤ maxLen) (w : World) (hH : Halves w) :
    Calls Tryd.prog 13 #[.string s] w fun e w' => RetAll (allR s.data.toList) w e w' := by
  have H1 := Lib.hid (inBlocks_any s hs w hH)
  have HH := Lib.hid hH
  clear hH hs
  rcases hi : inB s.data.toList with _ | L
  · have HA := Lib.hid (allR_none hi)
    rw [hi] at H1
    clear hi
    go_enter Tryd.func13, Tryd.ntmps13
    go_wp2_with fail
    refine H1.out.mono ?_
    rintro e w1 ⟨rfl, g1⟩
    go_wp2_with fail
    go_ret2
    rw [HA.out]
    exact ⟨rfl, g1⟩
  · rw [hi] at H1
    by_cases hok : okTab L
    · have HB := Lib.hid (buildR_ok hok)
      have HB2 := Lib.hid (fun (v : Value) (w1 : World) (hv : PV w1 v L) (hm : ∀ p ∈ L, p.key.size ≤ 65536 ∧ p.val.size ≤ 65536) (g : Gr w w1) => by
        have := build_any v L w1 hv (small_big hm) (HH.out.gr g)
        rw [HB.out] at this
        exact this)
      obtain ⟨T, hT⟩ : ∃ T, T = bs (tabL L) := ⟨_, rfl⟩
      rw [← hT] at HB2
      have hTs : T = s ↔ tabL L = s.data.toList := by rw [hT]; exact bs_eq
      by_cases he : T = s
      · have HA := Lib.hid (allR_yes hi ⟨hok, hTs.1 he⟩)
        have heq : (T.toList == s.toList) = true := eqS_iff.2 he
        clear hi hok hT hTs he HB
        go_enter Tryd.func13, Tryd.ntmps13
        go_wp2_with fail
        refine H1.out.mono ?_
        rintro e w1 ⟨v1, rfl, hp1, hsm, hl1, g1⟩
        have HP1 := Lib.hid hp1.pv
        have HSM := Lib.hid hsm
        have HG1 := Lib.hid g1
        clear hp1 hsm hl1 g1
        go_wp2_with fail
        refine (HB2.out _ _ HP1.out HSM.out HG1.out).mono ?_
        rintro e w2 ⟨rfl, g2⟩
        go_wp2_with fail
        go_ret2
        rw [HA.out]
        exact ⟨_, rfl, HP1.out.gr g2, HSM.out, HG1.out.trans g2⟩
      · have HA := Lib.hid (allR_no hi (fun h => he (hTs.2 h.2)))
        have heq : (T.toList == s.toList) = false := eqS_ne he
        clear hi hok hT hTs he HB
        go_enter Tryd.func13, Tryd.ntmps13
        go_wp2_with fail
        refine H1.out.mono ?_
        rintro e w1 ⟨v1, rfl, hp1, hsm, hl1, g1⟩
        have HP1 := Lib.hid hp1.pv
        have HSM := Lib.hid hsm
        have HG1 := Lib.hid g1
        clear hp1 hsm hl1 g1
        go_wp2_with fail
        refine (HB2.out _ _ HP1.out HSM.out HG1.out).mono ?_
        rintro e w2 ⟨rfl, g2⟩
        go_wp2_with fail
        go_ret2
        rw [HA.out]
        exact ⟨rfl, HG1.out.trans g2⟩
    · have HA := Lib.hid (allR_no hi (fun h => hok h.1))
      have hbd := buildR_bad hok
      have HB2 := Lib.hid (fun (v : Value) (w1 : World) (hv : PV w1 v L) (hm : ∀ p ∈ L, p.key.size ≤ 65536 ∧ p.val.size ≤ 65536) (g : Gr w w1) => build_any v L w1 hv (small_big hm) (HH.out.gr g))
      obtain ⟨T, hT⟩ : ∃ T, T = (buildR L).1 := ⟨_, rfl⟩
      rw [← hT] at HB2
      obtain ⟨er, her⟩ : ∃ T, T = (buildR L).2 := ⟨_, rfl⟩
      rw [← her] at HB2 hbd
      have hor := hbd.2
      clear hi hok hT her hbd
      rcases hor with rfl | rfl
      all_goals
        go_enter Tryd.func13, Tryd.ntmps13
        go_wp2_with fail
        refine H1.out.mono ?_
        rintro e w1 ⟨v1, rfl, hp1, hsm, hl1, g1⟩
        have HP1 := Lib.hid hp1.pv
        have HSM := Lib.hid hsm
        have HG1 := Lib.hid g1
        clear hp1 hsm hl1 g1
        go_wp2_with fail
        refine (HB2.out _ _ HP1.out HSM.out HG1.out).mono ?_
        rintro e w2 ⟨rfl, g2⟩
        go_wp2_with fail
        go_ret2
        rw [HA.out]
        exact ⟨rfl, HG1.out.trans g2⟩

set_option maxRecDepth 100000 in
theorem pclone_any (v : Value) (L : List PR) (w : World) (hv : PV w v L) (hlen : L.length * 32 ≤ 140737488355328) :
    Calls Tryd.prog 33 #[v] w fun e w' => ∃ u, e = .returned u ∧ PV w' u L ∧ Gr w w' := by
  have HV := Lib.hid hv
  obtain ⟨A, c, rfl, l1, ⟨_, l2⟩, l3⟩ := hv
  cases A with
  | none =>
    have hn0 : L.length = 0 := by
      rcases Nat.eq_zero_or_pos L.length with h | h
      · exact h
      · obtain ⟨b, off, hh, _⟩ := l3 0 h
        cases hh
    have hL : L = [] := List.length_eq_zero_iff.1 hn0
    have hc0 := l2 rfl
    subst hL hc0
    clear l1 l2 l3 hn0
    have he : ∀ w : World, (binOp .eql 22 (.slice none 0 0) (.slice none 0 0)).run Tryd.prog w = .ok (.bool true) w := fun w => Lib.run_eql_slice_nil w 22 25 none 0 0 0 0 Tryd.underlying22
    go_enter Tryd.func33, Tryd.ntmps33
    go_wp2
    go_ret
    exact ⟨_, rfl, PV.nil _, Gr.refl _⟩
  | some ad =>
    clear l1 l2 l3
    obtain ⟨i0, hi, hz0, hz1, hz2⟩ := info_parts infoPair
    have HI := Lib.hid (And.intro hi (And.intro hz0 (And.intro hz1 hz2)))
    clear hi hz0 hz1 hz2
    obtain ⟨n, hn⟩ : ∃ n, n = L.length := ⟨_, rfl⟩
    have he : ∀ w : World, (binOp .eql 22 (.slice (some ad) n c) (.slice none 0 0)).run Tryd.prog w = .ok (.bool false) w := fun w => Lib.run_eql_slice_nil w 22 25 (some ad) n c 0 0 Tryd.underlying22
    rw [← hn] at hlen HV ⊢
    have HSL := Lib.hid (HV.out.gr (gr_box w (.cells #[] 25))).sl
    rw [← hn] at HSL
    have HN := Lib.hid hn
    clear hn
    go_enter Tryd.func33, Tryd.ntmps33
    go_wp2_with (at_builtin; refine wpList_append_sl _ rfl (.tmp 5) (.tmp 6) 22 rfl w.heap.size 25 i0 _ 2 32 Tryd.underlying22 HI.out.1 HI.out.2.1 HI.out.2.2.1 HI.out.2.2.2 rfl (by decide) _ 0 [] rfl (own_none w _ 2) _ n (pcells L) rfl HSL.out (pcells_one L) (by unfold maxLen; omega) (by omega) (by simp) n (Nat.zero_add n) ?_; intro A5 c5 w5 hown5 hgr5 _)
    have HO : Hid (PV w5 (.slice A5 n c5) L) := Lib.hid (PV.of_sl (n := n) (by rw [List.nil_append] at hown5; exact own_sl hown5))
    have HG : Hid (Gr w w5) := Lib.hid (gr_of_grown (gr_box w _) (own_none w _ 2) hgr5 (by simp))
    clear hown5 hgr5
    go_wp2
    go_ret
    exact ⟨_, rfl, HO.out, HG.out⟩
end Go.Proofs.YtnihnkcmmnlaaaaDoor
