/- Walks: Get, Range, the program's. -/
import Derived.Test.YtnihnkcmmnlaaaaDoorTabH
namespace Go.Proofs.YtnihnkcmmnlaaaaDoor
open Go.RowKit

/-- What Get answers. -/
def getVal (o : Option (List PR)) (key : ByteArray) : Value :=
  match o with
  | none => .tuple #[.string ⟨#[]⟩, .bool false, .int .i64 60]
  | some L => match getR L key with
    | none => .tuple #[.string ⟨#[]⟩, .bool false, .int .i64 0]
    | some x => .tuple #[.string x, .bool true, .int .i64 0]
theorem getVal_none (key : ByteArray) : getVal none key = .tuple #[.string ⟨#[]⟩, .bool false, .int .i64 60] := rfl
theorem getVal_not {L : List PR} {key : ByteArray} (h : getR L key = none) : getVal (some L) key = .tuple #[.string ⟨#[]⟩, .bool false, .int .i64 0] := by simp [getVal, h]
theorem getVal_some {L : List PR} {key x : ByteArray} (h : getR L key = some x) : getVal (some L) key = .tuple #[.string x, .bool true, .int .i64 0] := by simp [getVal, h]

set_option maxRecDepth 100000 in
set_option maxHeartbeats 1000000 in
theorem get_any (s key : ByteArray) (hs : s.size ≤ maxLen) (w : World) (hH : Halves w) :
    Calls Tryd.prog 15 #[.string s, .string key] w fun e w' => e = .returned (getVal (allR s.data.toList) key) ∧ Gr w w' := by
  have H1 := Lib.hid (all_any s hs w hH)
  clear hH hs
  rcases hi : allR s.data.toList with _ | L
  · rw [hi] at H1
    have HG := Lib.hid (getVal_none key)
    clear hi
    go_enter Tryd.func15, Tryd.ntmps15
    go_wp2_with fail
    refine H1.out.mono ?_
    rintro e w1 ⟨rfl, g1⟩
    go_wp2_with fail
    go_ret3
    rw [HG.out]
    exact ⟨rfl, g1⟩
  · rw [hi] at H1
    have hr := allR_rises hi
    have hl := (allR_back hi).1.1
    have H2 := Lib.hid (fun (v : Value) (w1 : World) (hv : PV w1 v L) => place_any v L key w1 hv hr hl)
    have hpl := placeN_le L key
    obtain ⟨i, hie⟩ : ∃ i, i = placeN L key := ⟨_, rfl⟩
    rw [← hie] at H2 hpl
    obtain ⟨n, hn⟩ : ∃ n, n = L.length := ⟨_, rfl⟩
    have HN := Lib.hid hn
    have HIE := Lib.hid hie
    have HR := Lib.hid hr
    rw [← hn] at hpl hl
    clear hi hn hie hr
    by_cases hlt : i < n
    · have hiL : i < L.length := by rw [← HN.out]; exact hlt
      by_cases hk : L[i].key = key
      · have HGV : Hid (getVal (some L) key = .tuple #[.string L[i].val, .bool true, .int .i64 0]) := Lib.hid (getVal_some (by
          have h1 := get_found HR.out hiL
          rwa [hk] at h1))
        obtain ⟨x, hx⟩ : ∃ x, x = L[i].key := ⟨_, rfl⟩
        obtain ⟨y, hy⟩ : ∃ y, y = L[i].val := ⟨_, rfl⟩
        rw [← hy] at HGV
        have heq : (x.toList == key.toList) = true := by rw [hx, hk]; exact eqS_self key
        have HX := Lib.hid hx
        have HY := Lib.hid hy
        have hne : ((i : Int) == (n : Int)) = false := by simp; omega
        have t0 : (0 : Int) ≤ (i : Int) := by omega
        have t1 : (i : Int) < (n : Int) := by omega
        clear hx hy hk
        go_enter Tryd.func15, Tryd.ntmps15
        go_wp2_with fail
        refine H1.out.mono ?_
        rintro e w1 ⟨v1, rfl, hp1, hsm, g1⟩
        have HP1 := Lib.hid hp1
        have HG1 := Lib.hid g1
        obtain ⟨A1, c1, rfl, l1, ⟨l2, _⟩, l3⟩ := hp1
        have hc63 : c1 ≤ 9223372036854775807 := l2
        rw [← HN.out] at l1 HP1
        rw [← HN.out]
        obtain ⟨b, off, rfl, q0, q1⟩ := l3 i hiL
        rw [← HX.out] at q0
        rw [← HY.out] at q1
        have HQ0 := Lib.hid q0
        have HQ1 := Lib.hid q1
        clear hsm g1 l2 l3 q0 q1
        go_wp2_with fail
        refine (H2.out _ _ HP1.out).mono ?_
        rintro e w2 ⟨rfl, g2⟩
        have c0 := g2.cell HQ0.out
        have c1' := g2.cell HQ1.out
        have HG2 := Lib.hid (HG1.out.trans g2)
        clear g2
        go_wp2_with fail
        go_ret3
        rw [HGV.out]
        exact ⟨rfl, HG2.out⟩
      · have HGV : Hid (getVal (some L) key = .tuple #[.string ⟨#[]⟩, .bool false, .int .i64 0]) := Lib.hid (getVal_not (get_none HR.out (fun hi e => hk (by
          have h3 : ∀ (q : Nat) (hq : q < L.length), q = i → L[q].key = key → L[i].key = key := fun q hq e h => by subst e; exact h
          exact h3 _ hi HIE.out.symm e))))
        obtain ⟨x, hx⟩ : ∃ x, x = L[i].key := ⟨_, rfl⟩
        have heq : (x.toList == key.toList) = false := by rw [hx]; exact eqS_ne hk
        have HX := Lib.hid hx
        have hne : ((i : Int) == (n : Int)) = false := by simp; omega
        have t0 : (0 : Int) ≤ (i : Int) := by omega
        have t1 : (i : Int) < (n : Int) := by omega
        clear hx hk
        go_enter Tryd.func15, Tryd.ntmps15
        go_wp2_with fail
        refine H1.out.mono ?_
        rintro e w1 ⟨v1, rfl, hp1, hsm, g1⟩
        have HP1 := Lib.hid hp1
        have HG1 := Lib.hid g1
        obtain ⟨A1, c1, rfl, l1, ⟨l2, _⟩, l3⟩ := hp1
        have hc63 : c1 ≤ 9223372036854775807 := l2
        rw [← HN.out] at l1 HP1
        rw [← HN.out]
        obtain ⟨b, off, rfl, q0, -⟩ := l3 i hiL
        rw [← HX.out] at q0
        have HQ0 := Lib.hid q0
        clear hsm g1 l2 l3 q0
        go_wp2_with fail
        refine (H2.out _ _ HP1.out).mono ?_
        rintro e w2 ⟨rfl, g2⟩
        have c0 := g2.cell HQ0.out
        have HG2 := Lib.hid (HG1.out.trans g2)
        clear g2
        go_wp2_with fail
        go_ret3
        rw [HGV.out]
        exact ⟨rfl, HG2.out⟩
    · have hin : i = n := by omega
      have HGV : Hid (getVal (some L) key = .tuple #[.string ⟨#[]⟩, .bool false, .int .i64 0]) := Lib.hid (getVal_not (get_none HR.out (fun hi => by
        rw [← HIE.out, hin, HN.out] at hi
        exact absurd hi (Nat.lt_irrefl _))))
      have hne : ((i : Int) == (n : Int)) = true := by rw [hin]; simp
      have HIN := Lib.hid hin
      clear hin hlt
      go_enter Tryd.func15, Tryd.ntmps15
      go_wp2_with fail
      refine H1.out.mono ?_
      rintro e w1 ⟨v1, rfl, hp1, hsm, g1⟩
      have HP1 := Lib.hid hp1
      have HG1 := Lib.hid g1
      obtain ⟨A1, c1, rfl, l1, ⟨l2, _⟩, -⟩ := hp1
      have hc63 : c1 ≤ 9223372036854775807 := l2
      rw [← HN.out] at l1 HP1
      rw [← HN.out]
      clear hsm g1 l2
      go_wp2_with fail
      refine (H2.out _ _ HP1.out).mono ?_
      rintro e w2 ⟨rfl, g2⟩
      have HG2 := Lib.hid (HG1.out.trans g2)
      clear g2
      go_wp2_with fail
      go_ret3
      rw [HGV.out]
      exact ⟨rfl, HG2.out⟩

/-- What Range answers. -/
def RetRange (o : Option (List PR)) (a b : ByteArray) (w : World) (e : Ending) (w' : World) : Prop :=
  match o with
  | none => e = .returned (.tuple #[.slice none 0 0, .int .i64 60]) ∧ Gr w w'
  | some L => ∃ v, e = .returned (.tuple #[v, .int .i64 0]) ∧ PV w' v (rangeR L a b) ∧ Gr w w'
set_option maxRecDepth 100000 in
set_option maxHeartbeats 1000000 in
theorem range_any (s a b : ByteArray) (hs : s.size ≤ maxLen) (w : World) (hH : Halves w) :
    Calls Tryd.prog 17 #[.string s, .string a, .string b] w fun e w' => RetRange (allR s.data.toList) a b w e w' := by
  have H1 := Lib.hid (all_any s hs w hH)
  clear hH hs
  rcases hi : allR s.data.toList with _ | L
  · rw [hi] at H1
    clear hi
    go_enter Tryd.func17, Tryd.ntmps17
    go_wp2_with fail
    refine H1.out.mono ?_
    rintro e w1 ⟨rfl, g1⟩
    go_wp2_with fail
    go_ret2
    exact ⟨rfl, g1⟩
  · rw [hi] at H1
    have hr := allR_rises hi
    have hl := (allR_back hi).1.1
    rcases hab : lessS a b with _ | _
    · have HE := Lib.hid (range_empty L hab)
      have hlt : Go.Op.bytesLess a.toList b.toList = false := hab
      clear hi hr hl hab
      go_enter Tryd.func17, Tryd.ntmps17
      go_wp2_with fail
      refine H1.out.mono ?_
      rintro e w1 ⟨v1, rfl, hp1, hsm, g1⟩
      clear hp1 hsm
      go_wp2_with fail
      go_ret2
      refine ⟨_, rfl, ?_, g1⟩
      rw [HE.out]
      exact PV.nil _
    · have hlt : Go.Op.bytesLess a.toList b.toList = true := hab
      have H2 := Lib.hid (fun (k : ByteArray) (v : Value) (w1 : World) (hv : PV w1 v L) => place_any v L k w1 hv hr hl)
      have hle := place_lt L hab
      have hln := placeN_le L b
      have HRG : Hid (rangeR L a b = (L.take (placeN L b)).drop (placeN L a)) := Lib.hid rfl
      have H2a := Lib.hid (H2.out a)
      have H2b := Lib.hid (H2.out b)
      obtain ⟨i, hie⟩ : ∃ i, i = placeN L a := ⟨_, rfl⟩
      obtain ⟨j, hje⟩ : ∃ j, j = placeN L b := ⟨_, rfl⟩
      rw [← hie] at H2a hle HRG
      rw [← hje] at H2b hle hln HRG
      obtain ⟨n, hn⟩ : ∃ n, n = L.length := ⟨_, rfl⟩
      have HN := Lib.hid hn
      rw [← hn] at hln hl
      clear hi hn hie hje hr hab H2
      go_enter Tryd.func17, Tryd.ntmps17
      go_wp2_with fail
      refine H1.out.mono ?_
      rintro e w1 ⟨v1, rfl, hp1, hsm, g1⟩
      have HP1 := Lib.hid hp1
      have HG1 := Lib.hid g1
      obtain ⟨A1, c1, rfl, l1, ⟨l2, _⟩, -⟩ := hp1
      have hc63 : c1 ≤ 9223372036854775807 := l2
      rw [← HN.out] at l1 HP1
      rw [← HN.out]
      have hsl := slice_mid n c1 i j hle (by omega) A1
      have HPM := Lib.hid (pv_mid HN.out HP1.out hle hln)
      rw [← HRG.out] at HPM
      obtain ⟨V, hV⟩ : ∃ V, V = sliced A1 i j c1 2 := ⟨_, rfl⟩
      rw [← hV] at hsl HPM
      have hrl : (rangeR L a b).length * 32 ≤ 140737488355328 := by
        rw [HRG.out, List.length_drop, List.length_take]
        omega
      have H3 := Lib.hid (fun (w2 : World) (g : Gr w1 w2) => pclone_any V (rangeR L a b) w2 (HPM.out.gr g) hrl)
      clear hsm g1 l2 hV hrl
      go_wp2_with fail
      refine (H2a.out _ _ HP1.out).mono ?_
      rintro e w2 ⟨rfl, g2⟩
      have HG2 := Lib.hid g2
      clear g2
      go_wp2_with fail
      refine (H2b.out _ _ (HP1.out.gr HG2.out)).mono ?_
      rintro e w3 ⟨rfl, g3⟩
      have HG3 := Lib.hid (HG2.out.trans g3)
      clear g3
      go_wp2_with fail
      refine (H3.out _ HG3.out).mono ?_
      rintro e w4 ⟨v4, rfl, hp4, g4⟩
      have HP4 := Lib.hid hp4
      have HG4 := Lib.hid ((HG1.out.trans HG3.out).trans g4)
      clear hp4 g4 hsl
      go_wp2_with fail
      go_ret2
      exact ⟨_, rfl, HP4.out, HG4.out⟩
end Go.Proofs.YtnihnkcmmnlaaaaDoor
