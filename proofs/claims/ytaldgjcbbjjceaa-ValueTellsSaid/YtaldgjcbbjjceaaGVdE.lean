/- Walks: the document's Into. -/
import Derived.Test.YtaldgjcbbjjceaaGVdD
namespace Go.Proofs.Ytaldgjcbbjjceaa
open Go.RowKit Go.Joins
set_option linter.unusedSimpArgs false
set_option linter.unusedVariables false

theorem SV.takeQ {w : World} {n c k : Nat} {A : Option Addr} {L : List ByteArray} (h : SV w (.slice A n c) L) (hk : k ≤ L.length) : SV w (.slice A k c) (L.take k) := by
  obtain ⟨A', c', hv, h1, h2, h3⟩ := h
  injection hv with e1 e2 e3
  subst e1 e3
  refine ⟨A, c, by rw [List.length_take, Nat.min_eq_left hk], by rw [List.length_take]; omega, h2, fun j hj => ?_⟩
  rw [List.length_take] at hj
  obtain ⟨b, off, ha, hc⟩ := h3 j (by omega)
  exact ⟨b, off, ha, by rw [List.getElem_take]; exact hc⟩
theorem SV.dropQ {w : World} {A : Option Addr} {n c k : Nat} {L : List ByteArray} (h : SV w (.slice A n c) L) (hk : k ≤ n) : SV w (sliced A k n c 1) (L.drop k) := by
  obtain ⟨A', c', hv, h1, ⟨h2, h2'⟩, h3⟩ := h
  injection hv with e1 e2 e3
  subst e1 e2 e3
  refine ⟨if c = k then A else A.map (·.add (k * 1)), c - k, by rw [List.length_drop]; rfl, by rw [List.length_drop]; omega, ⟨by omega, fun e => ?_⟩, fun j hj => ?_⟩
  · by_cases q : c = k
    · omega
    · rw [if_neg q] at e
      have : A = none := by cases A with | none => rfl | some a => cases e
      have := h2' this
      omega
  · rw [List.length_drop] at hj
    obtain ⟨b, off, ha, hc⟩ := h3 (k + j) (by omega)
    subst ha
    refine ⟨b, off + k * 1, ?_, ?_⟩
    · rw [if_neg (by omega)]
      show some ((⟨b, off, none⟩ : Addr).add (k * 1)) = _
      rw [Go.WideShapes.add_plain]
    · rw [List.getElem_drop, show off + k * 1 + j = off + (k + j) by omega]
      exact hc
theorem sv_one (w : World) (s : ByteArray) : SV (w.alloc (.cells #[.string s] 9)) (.slice (some ⟨w.heap.size, 0, none⟩) 1 1) [s] := by
  refine ⟨_, 1, rfl, Nat.le_refl _, ⟨by decide, fun h => by cases h⟩, fun j hj => ⟨w.heap.size, 0, rfl, ?_⟩⟩
  have : j = 0 := by simp at hj; omega
  subst this
  rw [World.cell?_alloc_mark]; rfl
theorem intoT_len (s : ByteArray) (L : List ByteArray) : (intoT s L).length ≤ L.length + 1 := by rw [intoT_ins]; exact insRs_len s L
set_option maxRecDepth 100000 in
set_option maxHeartbeats 8000000 in
theorem rinto_any (v : Value) (L : List ByteArray) (s : ByteArray) (w : World) (h : SV w v L) (hlen : L.length ≤ 1000000) :
    Calls Try.prog 37 #[v, .string s] w fun e w' => ∃ v', e = .returned v' ∧ SV w' v' (intoT s L) ∧ Gr w w' := by
  have HV := Lib.hid h
  obtain ⟨A, c, hvf, hnc, ⟨hcm, -⟩, hat⟩ := h
  subst hvf
  have HAT : Hid (∀ j (hj : j < L.length), ∃ b off, A = some ⟨b, off, none⟩ ∧ w.cell? ⟨b, off + j, none⟩ = some (.string L[j])) := Lib.hid hat
  obtain ⟨n, hn⟩ : ∃ n, n = L.length := ⟨_, rfl⟩
  have HN := Lib.hid hn
  rw [← hn] at HV hlen hnc ⊢
  clear hat hn hcm
  go_enter Try.func37, Try.ntmps37
  go_wp2_with fail
  go_loopw [5] (fun i wr => ∃ j : Nat, j ≤ n ∧ i = .int .i64 j ∧ Hid (Gr w wr ∧ ∀ k (hk : k < L.length), k < j → lessS L[k] s = true)) (fun i _ => n - (intOf i).toNat)
  case atStart => exact ⟨0, Nat.zero_le _, rfl, Lib.hid ⟨Gr.refl _, fun _ _ h => absurd h (Nat.not_lt_zero _)⟩⟩
  case round =>
    obtain ⟨j, hj, rfl, hst⟩ := hrel
    rename World => wr
    have HGR := Lib.hid hst.out.1
    have HALL := Lib.hid hst.out.2
    clear hst
    have hj0 : (0 : Int) ≤ (j : Int) := Int.natCast_nonneg _
    have hst := slice_to_g 30 1 elemSt sizeSt n c j (by omega) A
    have hsf := slice_from_g 30 1 elemSt sizeSt n c j (by omega) A
    by_cases hjn : j < n
    case pos =>
      have hjn1 : (j : Int) < (n : Int) := by omega
      have hjl : j < L.length := by rw [← HN.out]; exact hjn
      obtain ⟨b, off, hA, q0⟩ := HAT.out j hjl
      obtain ⟨x, hx⟩ : ∃ x, x = L[j] := ⟨_, rfl⟩
      rw [← hx] at q0
      have q1 := HGR.out.cell q0
      rcases hl : lessS x s with _ | _
      case true =>
        have p1 : Go.Op.bytesLess x.toList s.toList = true := hl
        have HNX : Hid (∀ k (hk : k < L.length), k < j + 1 → lessS L[k] s = true) := Lib.hid fun k hk hkj => by
          by_cases e : k = j
          · subst e; rw [← hx]; exact hl
          · exact HALL.out k hk (by omega)
        subst hA
        clear hl hx q0 hst hsf
        go_wp2_with fail
        go_roundw
        case measure => simp [intOf]; omega
        case rel => exact ⟨j + 1, by omega, by go_num, Lib.hid ⟨HGR.out, HNX.out⟩⟩
      case false =>
        have p1 : Go.Op.bytesLess x.toList s.toList = false := hl
        have HPL : Hid (plcS s L = j) := Lib.hid (plcS_eq hjl (by rw [← hx]; exact hl) HALL.out)
        by_cases hxs : x = s
        · have p2 : (x.toList == s.toList) = true := by rw [hxs]; simp
          have HE : Hid (intoT s L = L) := Lib.hid (by unfold intoT; rw [HPL.out, List.getElem?_eq_getElem hjl, ← hx, hxs, if_pos rfl])
          subst hA
          clear hl hx q0 hst hsf hxs
          go_wp2_with fail
          go_ret
          exact ⟨_, rfl, by rw [HE.out]; exact HV.out.gr HGR.out, HGR.out⟩
        · have p2 : (x.toList == s.toList) = false := eqS_ne hxs
          have HE : Hid (intoT s L = L.take j ++ [s] ++ L.drop j) := Lib.hid (by unfold intoT; rw [HPL.out, List.getElem?_eq_getElem hjl, ← hx, if_neg (fun h => hxs (Option.some.inj h))]; simp)
          subst hA
          clear hl hx q0 hxs
          have HT := Lib.hid ((HV.out.takeQ (k := j) (by rw [← HN.out]; omega)).gr HGR.out)
          have HD := Lib.hid ((HV.out.dropQ (k := j) (by omega)).gr HGR.out)
          have HTL : Hid (j = (L.take j).length) := Lib.hid (by rw [List.length_take]; have := HN.out; omega)
          have HDL : Hid (n - j = (L.drop j).length) := Lib.hid (by rw [List.length_drop, ← HN.out])
          obtain ⟨Ad, cd, hsd⟩ : ∃ Ad cd, sliced (some ⟨b, off, none⟩) j n c 1 = .slice Ad (n - j) cd := ⟨_, _, rfl⟩
          rw [hsd] at hsf HD
          have hz1 : (0 + j) * 16 ≤ 140737488355328 := by omega
          have hz2 : (j + 1) * 16 ≤ 140737488355328 := by omega
          have hz3 : (j + 1 + (n - j)) * 16 ≤ 140737488355328 := by omega
          clear hsd
          go_wp2_with (at_builtin; refine wpList_push_n (w0 := wr) rfl (.tmp 34) (.tmp 37) rfl (.slice none 0 0) (.slice (some ⟨b, off, none⟩) j c) [] (L.take j) 0 j rfl HTL.out rfl (SO.nil _ _) rfl HT.out hz1 (Gr.refl _) ?_)
          intro A1 c1 w1 hown1 g1
          have hown1 : SO w1 wr.heap.size (.slice A1 j c1) (L.take j) := by simpa using hown1
          obtain ⟨W2, hW2, g2, hs2⟩ : ∃ W, W = w1.alloc (.cells #[.string s] 9) ∧ Gr w1 W ∧ SV W (.slice (some ⟨w1.heap.size, 0, none⟩) 1 1) [s] := ⟨_, rfl, (Gr.refl _).alloc _, sv_one w1 s⟩
          obtain ⟨b2, hb2⟩ : ∃ b, b = w1.heap.size := ⟨_, rfl⟩
          rw [← hb2] at hs2
          have HO2 := Lib.hid (hown1.gr g2)
          have HS2 := Lib.hid hs2
          have HG2 := Lib.hid (g1.trans g2)
          have e0 : (0 + j) = j := Nat.zero_add j
          clear hown1 g1 g2 hs2
          try rw [e0]
          clear e0
          go_wp2_with (at_builtin; rw [← hb2, ← hW2]; refine wpList_push_n (w0 := wr) rfl (.tmp 39) (.tmp 41) rfl (.slice A1 j c1) (.slice (some ⟨b2, 0, none⟩) 1 1) (L.take j) [s] j 1 HTL.out rfl rfl HO2.out rfl HS2.out hz2 HG2.out ?_)
          intro A3 c3 w3 hown3 g3
          have HO3 := Lib.hid hown3
          have HG3 := Lib.hid g3
          have HL3 : Hid (j + 1 = (L.take j ++ [s]).length) := Lib.hid (by rw [List.length_append, ← HTL.out]; rfl)
          have HD3 := Lib.hid (HD.out.gr g3)
          clear hown3 g3 hW2 hb2
          go_wp2_with (at_builtin; refine wpList_push_n (w0 := wr) rfl (.tmp 43) (.tmp 46) rfl (.slice A3 (j + 1) c3) (.slice Ad (n - j) cd) (L.take j ++ [s]) (L.drop j) (j + 1) (n - j) HL3.out HDL.out rfl HO3.out rfl HD3.out hz3 HG3.out ?_)
          intro A5 c5 w5 hown5 g5
          have HO5 := Lib.hid hown5
          have HG5 := Lib.hid (HGR.out.trans g5)
          obtain ⟨m5, hm5⟩ : ∃ m, m = j + 1 + (n - j) := ⟨_, rfl⟩
          rw [← hm5] at HO5 ⊢
          have HSV : Hid (SV w5 (.slice A5 m5 c5) (intoT s L)) := Lib.hid (by rw [HE.out]; simpa using HO5.out.sv)
          clear hown5 g5 hm5
          go_wp2_with fail
          go_ret
          exact ⟨_, rfl, HSV.out, HG5.out⟩
    case neg =>
      have hjn1 : ¬ (j : Int) < (n : Int) := by omega
      have hje : j = n := by omega
      have HPL : Hid (plcS s L = j) := Lib.hid (by rw [hje, HN.out]; exact plcS_none fun k hk => HALL.out k hk (by rw [hje, HN.out]; exact hk))
      have HE : Hid (intoT s L = L.take j ++ [s] ++ L.drop j) := Lib.hid (by unfold intoT; rw [HPL.out, List.getElem?_eq_none (by rw [hje, HN.out]; exact Nat.le_refl _), if_neg (fun h => by cases h)]; simp)
      clear hje
      have HT := Lib.hid ((HV.out.takeQ (k := j) (by rw [← HN.out]; omega)).gr HGR.out)
      have HD := Lib.hid ((HV.out.dropQ (k := j) (by omega)).gr HGR.out)
      have HTL : Hid (j = (L.take j).length) := Lib.hid (by rw [List.length_take]; have := HN.out; omega)
      have HDL : Hid (n - j = (L.drop j).length) := Lib.hid (by rw [List.length_drop, ← HN.out])
      obtain ⟨Ad, cd, hsd⟩ : ∃ Ad cd, sliced A j n c 1 = .slice Ad (n - j) cd := ⟨_, _, rfl⟩
      rw [hsd] at hsf HD
      have hz1 : (0 + j) * 16 ≤ 140737488355328 := by omega
      have hz2 : (j + 1) * 16 ≤ 140737488355328 := by omega
      have hz3 : (j + 1 + (n - j)) * 16 ≤ 140737488355328 := by omega
      clear hsd
      go_wp2_with (at_builtin; refine wpList_push_n (w0 := wr) rfl (.tmp 34) (.tmp 37) rfl (.slice none 0 0) (.slice A j c) [] (L.take j) 0 j rfl HTL.out rfl (SO.nil _ _) rfl HT.out hz1 (Gr.refl _) ?_)
      intro A1 c1 w1 hown1 g1
      have hown1 : SO w1 wr.heap.size (.slice A1 j c1) (L.take j) := by simpa using hown1
      obtain ⟨W2, hW2, g2, hs2⟩ : ∃ W, W = w1.alloc (.cells #[.string s] 9) ∧ Gr w1 W ∧ SV W (.slice (some ⟨w1.heap.size, 0, none⟩) 1 1) [s] := ⟨_, rfl, (Gr.refl _).alloc _, sv_one w1 s⟩
      obtain ⟨b2, hb2⟩ : ∃ b, b = w1.heap.size := ⟨_, rfl⟩
      rw [← hb2] at hs2
      have HO2 := Lib.hid (hown1.gr g2)
      have HS2 := Lib.hid hs2
      have HG2 := Lib.hid (g1.trans g2)
      have e0 : (0 + j) = j := Nat.zero_add j
      clear hown1 g1 g2 hs2
      try rw [e0]
      clear e0
      go_wp2_with (at_builtin; rw [← hb2, ← hW2]; refine wpList_push_n (w0 := wr) rfl (.tmp 39) (.tmp 41) rfl (.slice A1 j c1) (.slice (some ⟨b2, 0, none⟩) 1 1) (L.take j) [s] j 1 HTL.out rfl rfl HO2.out rfl HS2.out hz2 HG2.out ?_)
      intro A3 c3 w3 hown3 g3
      have HO3 := Lib.hid hown3
      have HG3 := Lib.hid g3
      have HL3 : Hid (j + 1 = (L.take j ++ [s]).length) := Lib.hid (by rw [List.length_append, ← HTL.out]; rfl)
      have HD3 := Lib.hid (HD.out.gr g3)
      clear hown3 g3 hW2 hb2
      go_wp2_with (at_builtin; refine wpList_push_n (w0 := wr) rfl (.tmp 43) (.tmp 46) rfl (.slice A3 (j + 1) c3) (.slice Ad (n - j) cd) (L.take j ++ [s]) (L.drop j) (j + 1) (n - j) HL3.out HDL.out rfl HO3.out rfl HD3.out hz3 HG3.out ?_)
      intro A5 c5 w5 hown5 g5
      have HO5 := Lib.hid hown5
      have HG5 := Lib.hid (HGR.out.trans g5)
      obtain ⟨m5, hm5⟩ : ∃ m, m = j + 1 + (n - j) := ⟨_, rfl⟩
      rw [← hm5] at HO5 ⊢
      have HSV : Hid (SV w5 (.slice A5 m5 c5) (intoT s L)) := Lib.hid (by rw [HE.out]; simpa using HO5.out.sv)
      clear hown5 g5 hm5
      go_wp2_with fail
      go_ret
      exact ⟨_, rfl, HSV.out, HG5.out⟩
end Go.Proofs.Ytaldgjcbbjjceaa
