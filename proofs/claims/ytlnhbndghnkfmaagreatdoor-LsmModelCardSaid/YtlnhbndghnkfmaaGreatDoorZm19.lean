/- Walks: changes as new memory, the program's. Walks: the record of a batch, changes as a table has them, the program's. -/
import Derived.Test.YtlnhbndghnkfmaaGreatDoorZm18
import Derived.Deep.RegionHeld3
import Derived.Deep.RegionLaw
namespace Go.Proofs.YtlnhbndghnkfmaaGreatDoor
open Go.RowKit

section
variable {w : World} {B g n c : Nat} {L : List CR}
theorem CO.len (h : CO w B (.slice (some ⟨g, 0, none⟩) n c) L) : n = L.length ∧ L.length ≤ c ∧ c ≤ 9223372036854775807 ∧ B ≤ g ∧ g < w.heap.size := by
  rcases h.2 with ⟨hh, _⟩ | ⟨g', cap', cur, hh, hb, hg, hn, hm, _⟩
  · cases hh
  · injection hh with h1 h2 h3
    injection h1 with h1
    injection h1 with h1
    subst h1 h2 h3
    exact ⟨rfl, hn, hm, hb, (Array.getElem?_eq_some_iff.1 hg).1⟩
theorem CO.free (h : CO w B (.slice (some ⟨g, 0, none⟩) n c) L) (j : Nat) : w.frozen? ⟨g, j, none⟩ = false := by
  obtain ⟨rfl, _⟩ := h.len
  exact h.frozenAt j
theorem CO.addr {v : Value} (h : CO w B v L) {i : Nat} (hi : i < L.length) : ∃ g c, v = .slice (some ⟨g, 0, none⟩) L.length c := by
  obtain ⟨g, c, hv, _⟩ := World.ownsRow.form h (by omega)
  exact ⟨g, c, hv⟩
theorem CO.store (h : CO w B (.slice (some ⟨g, 0, none⟩) n c) L) {i r : Nat} (hi : i < L.length) (hr : r < 3) (f : CR) (u : Value) (hf : ccell f = (ccell L[i]).set r u) :
    CO (w.setCell ⟨g, i * 3 + r, none⟩ u) B (.slice (some ⟨g, 0, none⟩) n c) (L.set i f) := by
  obtain ⟨rfl, _⟩ := h.len
  obtain ⟨h1, _⟩ := h.stored (i * 3 + r) u
  unfold CO
  rw [List.length_set]
  have : ccells (L.set i f) = (ccells L).set (i * 3 + r) u := (rows_set ccell 3 ccell_len L i r hi hr f u hf).symm
  rw [this]
  exact h1
theorem CO.put3 (h : CO w B (.slice (some ⟨g, 0, none⟩) n c) L) {i : Nat} (hi : i < L.length) (f : CR) :
    CO (((w.setCell ⟨g, i * 3, none⟩ (.string f.key)).setCell ⟨g, i * 3 + 1, none⟩ (.string f.val)).setCell ⟨g, i * 3 + 2, none⟩ (.bool f.gone)) B (.slice (some ⟨g, 0, none⟩) n c) (L.set i f) := by
  have h1 := h.store hi (r := 0) (by decide) ⟨f.key, L[i].val, L[i].gone⟩ (.string f.key) rfl
  have h2 := h1.store (i := i) (by rw [List.length_set]; exact hi) (r := 1) (by decide) ⟨f.key, f.val, L[i].gone⟩ (.string f.val) (by rw [List.getElem_set_self]; rfl)
  have h3 := h2.store (i := i) (by rw [List.length_set, List.length_set]; exact hi) (r := 2) (by decide) f (.bool f.gone) (by rw [List.getElem_set_self]; rfl)
  rw [List.set_set, List.set_set] at h3
  exact h3
theorem CO.at_ (h : CO w B (.slice (some ⟨g, 0, none⟩) n c) L) {i : Nat} (hi : i < L.length) : w.cell? ⟨g, i * 3, none⟩ = some (.string L[i].key) ∧ w.cell? ⟨g, i * 3 + 1, none⟩ = some (.string L[i].val) ∧ w.cell? ⟨g, i * 3 + 2, none⟩ = some (.bool L[i].gone) := by
  obtain ⟨A, c', hv, _, _, hc⟩ := h.cv
  obtain ⟨b, off, ha, q0, q1, q2⟩ := hc i hi
  injection hv with e1
  rw [← e1] at ha
  injection ha with ha
  injection ha with a1 a2
  subst a1 a2
  rw [Nat.zero_add] at q0 q1 q2
  exact ⟨q0, q1, q2⟩
end
/-- A call's answer: the same changes in new memory. -/
def RetCh (L : List CR) (w : World) (e : Ending) (w' : World) : Prop := ∃ v, e = .returned v ∧ CO w' w.heap.size v L ∧ Gr w w'
set_option maxRecDepth 100000 in
theorem cclone_any (v : Value) (L : List CR) (w : World) (hv : CV w v L) (hlen : L.length * 40 ≤ 140737488355328) :
    Calls Tryz.prog 105 #[v] w fun e w' => RetCh L w e w' := by
  obtain ⟨A, c, hva, l1, ⟨_, l2⟩, l3⟩ := id hv
  have HV := Lib.hid hv
  subst hva
  clear hv
  cases A with
  | none =>
    have hn0 : L.length = 0 := by
      rcases Nat.eq_zero_or_pos L.length with h | h
      · exact h
      · obtain ⟨b, off, hh, _⟩ := l3 0 h
        cases hh
    have hL : L = [] := List.length_eq_zero_iff.1 hn0
    have hc0 := l2 rfl
    subst hL hc0
    clear l1 l2 l3 hn0
    have he : ∀ w : World, (binOp .eql 27 (.slice none 0 0) (.slice none 0 0)).run Tryz.prog w = .ok (.bool true) w := fun w => Lib.run_eql_slice_nil w 27 70 none 0 0 0 0 Tryz.underlying27
    go_enter Tryz.func105, Tryz.ntmps105
    go_wp2
    go_ret
    exact ⟨_, rfl, CO.nil _ _, Gr.refl _⟩
  | some ad =>
    obtain ⟨n, hn⟩ : ∃ n, n = L.length := ⟨_, rfl⟩
    have HN := Lib.hid hn
    rw [← hn] at HV ⊢
    have hz : (0 + n) * 40 ≤ 140737488355328 := by omega
    clear l1 l2 l3 hn hlen
    have he : ∀ w : World, (binOp .eql 27 (.slice (some ad) n c) (.slice none 0 0)).run Tryz.prog w = .ok (.bool false) w := fun w => Lib.run_eql_slice_nil w 27 70 (some ad) n c 0 0 Tryz.underlying27
    go_enter Tryz.func105, Tryz.ntmps105
    go_wp2_with (at_builtin; refine wpList_push_ck (w0 := w) rfl (.tmp 5) (.tmp 6) rfl (.slice (some ⟨w.heap.size, 0, none⟩) 0 0) (.slice (some ad) n c) [] L 0 n rfl HN.out rfl (own_none w 70 3) rfl (HV.out.gr (gr_box _ _)) hz (gr_box _ _) ?_)
    intro A' c' w1 hown g1 _
    have HO := Lib.hid hown
    clear hown
    go_wp2
    go_ret
    exact ⟨_, rfl, HO.out, g1⟩
/-- What holds of the world while one change of the row is copied. -/
def CpT (L : List CR) (g n c bx k B : Nat) (f : CR) (w w' : World) : Prop :=
  CO w' B (.slice (some ⟨g, 0, none⟩) n c) L ∧ Gr w w' ∧ g < bx ∧ bx < w'.heap.size ∧ w.heap.size ≤ B ∧ ∃ hk : k < L.length, f = L[k]
abbrev CpC (g bx k : Nat) (f : CR) (w' : World) : Prop :=
  w'.cell? ⟨bx, 0, none⟩ = some (.string f.key) ∧ w'.cell? ⟨bx, 1, none⟩ = some (.string f.val) ∧ w'.cell? ⟨bx, 2, none⟩ = some (.bool f.gone)
          ∧ w'.cell? ⟨g, k * 3, none⟩ = some (.string f.key) ∧ w'.cell? ⟨g, k * 3 + 1, none⟩ = some (.string f.val) ∧ w'.cell? ⟨g, k * 3 + 2, none⟩ = some (.bool f.gone)
          ∧ w'.frozen? ⟨g, k * 3, none⟩ = false ∧ w'.frozen? ⟨g, k * 3 + 1, none⟩ = false ∧ w'.frozen? ⟨g, k * 3 + 2, none⟩ = false
theorem cpC_of {L : List CR} {g n c bx k B : Nat} {f : CR} {w w' : World} (hb : CCell w' bx 0 f) (h : CpT L g n c bx k B f w w') : CpC g bx k f w' ∧ CpT L g n c bx k B f w w' := by
  obtain ⟨h1, h2, h3, h4, h5, hk, hf⟩ := id h
  have hc := h1.at_ hk
  rw [← hf] at hc
  exact ⟨⟨hb.1, hb.2.1, hb.2.2, hc.1, hc.2.1, hc.2.2, h1.free _, h1.free _, h1.free _⟩, h⟩
theorem cpT_gr {L : List CR} {g n c bx k B : Nat} {f : CR} {w w1 w2 : World} (h : CpT L g n c bx k B f w w1) (q : Gr w1 w2) : CpT L g n c bx k B f w w2 := by
  obtain ⟨h1, h2, h3, h4, h5, h8⟩ := h
  exact ⟨h1.gr q, h2.trans q, h3, Nat.lt_of_lt_of_le h4 q.size, h5, h8⟩
theorem keepCh {L : List CR} {g n c bx k B : Nat} {f : CR} {w w1 w2 : World} (h : CpC g bx k f w1 ∧ CpT L g n c bx k B f w w1) (q : Gr w1 w2) : CpC g bx k f w2 ∧ CpT L g n c bx k B f w w2 :=
  cpC_of (CCell.gr ⟨h.1.1, h.1.2.1, h.1.2.2.1⟩ q) (cpT_gr h.2 q)
theorem drewCh {L : List CR} {g n c bx k B : Nat} {f : CR} {w w1 : World} (h : CpC g bx k f w1 ∧ CpT L g n c bx k B f w w1) : CpC g bx k f w1.drew ∧ CpT L g n c bx k B f w w1.drew := keepCh h (Gr.refl _).drew
theorem CCell.far {w : World} {b o : Nat} {f : CR} (h : CCell w b o f) {p : Addr} (hp : p.block ≠ b) (u : Value) : CCell (w.setCell p u) b o f := by
  have : ∀ j, (w.setCell p u).cell? ⟨b, j, none⟩ = w.cell? ⟨b, j, none⟩ := fun j => World.cell?_setCell_other _ _ _ _ (fun e => hp (by rw [e]))
  exact ⟨by rw [this]; exact h.1, by rw [this]; exact h.2.1, by rw [this]; exact h.2.2⟩
theorem cpT_put {L : List CR} {g n c bx k B : Nat} {f : CR} {w w1 : World} (h : CpC g bx k f w1 ∧ CpT L g n c bx k B f w w1) :
    CpC g bx k f (((w1.setCell ⟨g, k * 3, none⟩ (.string f.key)).setCell ⟨g, k * 3 + 1, none⟩ (.string f.val)).setCell ⟨g, k * 3 + 2, none⟩ (.bool f.gone)) ∧
      CpT L g n c bx k B f w (((w1.setCell ⟨g, k * 3, none⟩ (.string f.key)).setCell ⟨g, k * 3 + 1, none⟩ (.string f.val)).setCell ⟨g, k * 3 + 2, none⟩ (.bool f.gone)) := by
  obtain ⟨⟨b0, b1, b2, _⟩, h1, h2, h3, h4, h5, hk, hf⟩ := h
  have hp := h1.put3 hk f
  rw [hf, List.set_getElem_self hk, ← hf] at hp
  have hBg := h1.len.2.2.2.1
  have hb : CCell w1 bx 0 f := ⟨b0, b1, b2⟩
  refine cpC_of (((hb.far (p := ⟨g, k * 3, none⟩) (by show g ≠ bx; omega) _).far (p := ⟨g, k * 3 + 1, none⟩) (by show g ≠ bx; omega) _).far (p := ⟨g, k * 3 + 2, none⟩) (by show g ≠ bx; omega) _) ?_
  refine ⟨hp, ((Below.setCell (Below.setCell (Below.setCell h2 (p := ⟨g, k * 3, none⟩) (by show w.heap.size ≤ g; omega) _) (p := ⟨g, k * 3 + 1, none⟩) (by show w.heap.size ≤ g; omega) _) (p := ⟨g, k * 3 + 2, none⟩) (by show w.heap.size ≤ g; omega) _)), h3, ?_, h5, hk, hf⟩
  simpa [World.setCell] using h4
theorem cbox (w : World) (f : CR) : CCell (w.alloc (.cells #[.string f.key, .string f.val, .bool f.gone] 70)) w.heap.size 0 f := ⟨by simp, by simp, by simp⟩
set_option maxRecDepth 100000 in
set_option maxHeartbeats 1000000 in
theorem copied_any (v : Value) (L : List CR) (w : World) (hv : CV w v L) (hlen : L.length * 40 ≤ 140737488355328) (hmax : ∀ c ∈ L, c.key.size ≤ 281474976710656 ∧ c.val.size ≤ 281474976710656) :
    Calls Tryz.prog 63 #[v] w fun e w' => RetCh L w e w' := by
  have HC := Lib.hid (cclone_any v L w hv hlen)
  have HM := Lib.hid hmax
  obtain ⟨n, hn⟩ : ∃ n, n = L.length := ⟨_, rfl⟩
  have HN := Lib.hid hn
  rw [← hn] at hlen
  clear hv hmax hn
  go_enter Tryz.func63, Tryz.ntmps63
  go_wp2_with fail
  refine HC.out.mono ?_
  rintro e w1 ⟨v1, rfl, hown, g1⟩
  obtain ⟨A1, k1, rfl, hk1, hk2⟩ := own_form hown
  have HO := Lib.hid hown
  have HG := Lib.hid g1
  rw [← HN.out] at HO hk1 ⊢
  clear hown g1
  go_wp2_with fail
  go_loopg [9] (n + 1) (fun kx s9 wr => ∃ k : Nat, s9 = .int .i64 (k : Int) ∧ k ≤ n ∧ n - k ≤ kx ∧ Hid (CO wr w.heap.size (.slice A1 n k1) L) ∧ Hid (Gr w wr))
  case atStart => exact ⟨0, rfl, Nat.zero_le _, by omega, HO, HG⟩
  case round =>
    clear HO HG
    obtain ⟨k, rfl, hk, hkx, HOW, HGR⟩ := hrel
    by_cases hlt : k < n
    · have hkL : k < L.length := by rw [← HN.out]; exact hlt
      obtain ⟨g, cc, hvv⟩ := HOW.out.addr hkL
      injection hvv with h1 h2 h3
      subst h1 h3
      clear h2
      have hgl := HOW.out.len.2.2.2.2
      obtain ⟨cc0, cc1, cc2⟩ := HOW.out.at_ hkL
      have hfit := HM.out _ (List.getElem_mem hkL)
      obtain ⟨f, hfe⟩ : ∃ f, f = L[k] := ⟨_, rfl⟩
      rw [← hfe] at cc0 cc1 cc2 hfit
      have HK0 := Lib.hid (clone_any f.key hfit.1)
      have HK1 := Lib.hid (clone_any f.val hfit.2)
      have HS := Lib.hid (cpC_of (cbox wr f) (show CpT L g n k1 wr.heap.size k w.heap.size f w _ from ⟨HOW.out.gr (gr_box wr _), HGR.out.alloc _, hgl, by simp, Nat.le_refl _, hkL, hfe⟩))
      have t0 : (0 : Int) ≤ (k : Int) := by omega
      have t1 : (k : Int) < (n : Int) := by omega
      clear hfit hfe
      go_wp2_with fail
      obtain ⟨W3, hW3⟩ : ∃ W3, W3 = wr.alloc (.cells #[.string f.key, .string f.val, .bool f.gone] 70) := ⟨_, rfl⟩
      rw [← hW3] at HS ⊢
      clear hW3 cc0 cc1 cc2
      obtain ⟨bx, hbx⟩ : ∃ b, b = wr.heap.size := ⟨_, rfl⟩
      rw [← hbx] at HS hgl ⊢
      have HBX := Lib.hid hbx
      clear hbx
      go_region_held3 (fun w' => CpC g bx k f w' ∧ CpT L g n k1 bx k w.heap.size f w w')
        (first
          | exact HS.out
          | exact drewCh HS.out
          | (refine keepCh ?_ hb; assumption)
          | (refine cpT_put ?_; assumption))
        (first
          | (go_at_call 66; with_reducible refine (HK0.out _).mono ?_; rintro e w4 ⟨rfl, hb⟩)
          | (go_at_call 66; with_reducible refine (HK1.out _).mono ?_; rintro e w5 ⟨rfl, hb⟩))
      all_goals
        have hT := ‹CpC g bx k f (World.setCell _ _ _) ∧ CpT L g n k1 bx k w.heap.size f w (World.setCell _ _ _)›.2
        have HT := Lib.hid hT
        clear hT
        clear ‹CpC g bx k f (World.setCell _ _ _) ∧ CpT L g n k1 bx k w.heap.size f w (World.setCell _ _ _)›
        go_wp2
        go_roundg (n - (k + 1))
        case measure => omega
        case rel => exact ⟨k + 1, by go_num, by omega, Nat.le_refl _, Lib.hid HT.out.1, Lib.hid HT.out.2.1⟩
    · go_wp2_with fail
      go_ret
      exact ⟨_, rfl, HOW.out, HGR.out⟩
end Go.Proofs.YtlnhbndghnkfmaaGreatDoor
namespace Go.Proofs.YtlnhbndghnkfmaaGreatDoor
open Go.RowKit

theorem make_strs (n : Nat) (hn : n * 16 ≤ 140737488355328) : ∀ W : World, (Instr.makeSlice 28 (.int .i64 0) (.int .i64 (n : Int))).run Tryz.prog W = .ok (.slice (some ⟨W.heap.size, 0, none⟩) 0 n) (W.alloc (.cells (madeCells #[.string ⟨#[]⟩] n) 9)) := by
  intro W
  obtain ⟨i0, hi, hz0, hz1, hz2⟩ := info_parts infoString
  have h := run_make (P := Tryz.prog) W 28 9 i0 _ Tryz.underlying28 hi hz0 .i64 .i64 0 (n : Int) (by omega) (by omega) (by rw [hz2]; omega) (by omega)
  rw [hz1] at h
  simp at h
  exact h
theorem made_strs (W : World) (n : Nat) (hn : n ≤ maxLen) : SO (W.alloc (.cells (madeCells #[.string ⟨#[]⟩] n) 9)) W.heap.size (.slice (some ⟨W.heap.size, 0, none⟩) 0 n) [] := by
  refine World.ownsRow_made W _ n (Nat.le_refl _) hn ?_
  simp [madeCells]
set_option maxRecDepth 100000 in
set_option maxHeartbeats 1000000 in
theorem recordOf_any (v : Value) (L : List CR) (w : World) (hv : CV w v L) (hlen : L.length ≤ 100000) (hmax : ∀ c ∈ L, c.key.size ≤ 281474976710656 ∧ c.val.size ≤ 281474976710656) :
    Calls Tryz.prog 110 #[v] w fun e w' => e = .returned (packVal (recF L)) ∧ Gr w w' := by
  obtain ⟨A, c, rfl, l1, ⟨l2, _⟩, l3⟩ := hv
  have hc63 : c ≤ 9223372036854775807 := l2
  have HP := Lib.hid l3
  have HM : Hid (∀ s ∈ recF L, s.size ≤ maxLen) := Lib.hid (fun s hs => by
    obtain ⟨c, hc, hcs⟩ := List.mem_flatMap.1 hs
    have := hmax c hc
    unfold maxLen
    simp only [List.mem_cons, List.not_mem_nil, or_false] at hcs
    rcases hcs with rfl | rfl | rfl
    · unfold kindC
      split
      · show 1 ≤ _; decide
      · show 1 ≤ _; decide
    · omega
    · omega)
  obtain ⟨n, hn⟩ : ∃ n, n = L.length := ⟨_, rfl⟩
  have HN := Lib.hid hn
  rw [← hn] at l1 hlen ⊢
  obtain ⟨n3, hn3⟩ : ∃ n3, n3 = 3 * n := ⟨_, rfl⟩
  have hmk := make_strs n3 (by omega)
  have HO0 := Lib.hid (made_strs w n3 (by unfold maxLen; omega))
  have hw3 : IntKind.i64.wrap (3 * (n : Int)) = (n3 : Int) := by rw [IntKind.wrap_i64]; omega
  clear hn3
  clear l2 l3 hn hmax
  go_enter Tryz.func110, Tryz.ntmps110
  go_wp2_with fail
  go_loopg [4, 14] (n + 1) (fun kx s4 s14 wr => ∃ j : Nat, s14 = .int .i64 (j : Int) ∧ j ≤ n ∧ n - j ≤ kx ∧ Hid (SO wr w.heap.size s4 (recF (L.take j))) ∧ Hid (Gr w wr))
  case atStart => exact ⟨0, rfl, Nat.zero_le _, by omega, HO0, Lib.hid (gr_box _ _)⟩
  case round =>
    clear HO0
    obtain ⟨j, rfl, hj, hkx, HPO, HGR⟩ := hrel
    obtain ⟨A3, c3, rfl, -, -⟩ := own_form HPO.out
    have hrl : (recF (L.take j)).length = 3 * j := by rw [recF_len, List.length_take, ← HN.out, Nat.min_eq_left hj]
    rw [hrl] at HPO ⊢
    have HNF := Lib.hid hrl.symm
    clear hrl
    by_cases hlt : j < n
    · have hjL : j < L.length := by rw [← HN.out]; exact hlt
      obtain ⟨bb, off, rfl, q0, q1, q2⟩ := HP.out j hjL
      have t0 : (0 : Int) ≤ (j : Int) := by omega
      have t1 : (j : Int) < (n : Int) := by omega
      have HFS := Lib.hid (recF_succ hjL)
      obtain ⟨x, hx⟩ : ∃ x, x = L[j].key := ⟨_, rfl⟩
      obtain ⟨y, hy⟩ : ∃ y, y = L[j].val := ⟨_, rfl⟩
      obtain ⟨g, hg⟩ : ∃ y, y = L[j].gone := ⟨_, rfl⟩
      rw [← hx, ← hy, ← hg] at HFS
      rw [← hx] at q0
      rw [← hy] at q1
      rw [← hg] at q2
      have c0 := HGR.out.cell q0
      have c1' := HGR.out.cell q1
      have c2' := HGR.out.cell q2
      have HG2 := Lib.hid (HGR.out.trans (gr_box wr (.cells #[.string x, .string y, .bool g] 70)))
      have HPO2 := Lib.hid (HPO.out.gr (gr_box wr (.cells #[.string x, .string y, .bool g] 70)))
      clear hx hy hg q0 q1 q2 HPO HGR
      rcases g with _ | _
      all_goals
        go_wp2_with (at_builtin; refine wpList_push_n (w0 := w) rfl (.tmp 20) (.tmp 26) rfl (.slice A3 (3 * j) c3) _ _ _ (3 * j) 3 HNF.out rfl rfl (HPO2.out.gr (gr_box _ _)) rfl (sv_three _ _ x y _ (by simp)) (by omega) (HG2.out.alloc _) ?_)
        intro A5 c5 w5 hown5 g5
        have HP5 : Hid (SO w5 w.heap.size (.slice A5 (3 * j + 3) c5) (recF (L.take (j + 1)))) := Lib.hid (by rw [HFS.out]; exact hown5)
        have HG5 := Lib.hid g5
        clear hown5 g5 c0 c1' c2'
        go_wp2
        go_roundg (n - (j + 1))
        case measure => omega
        case rel => exact ⟨j + 1, by go_num, by omega, Nat.le_refl _, HP5, HG5⟩
    · have hjn : j = L.length := by rw [← HN.out]; omega
      have HF2 : Hid (recF (L.take j) = recF L) := Lib.hid (by rw [hjn, List.take_length])
      have H1 := Lib.hid (pack_any _ (recF L) wr (by rw [← HF2.out]; exact HPO.out.sv) HM.out)
      clear hjn
      go_wp2_with fail
      refine H1.out.mono ?_
      rintro e w1 ⟨rfl, g1⟩
      have HG1 := Lib.hid (HGR.out.trans g1)
      clear g1
      by_cases hok : okPack (recF L)
      · have HV := Lib.hid (packVal_yes hok)
        rw [HV.out]
        clear hok
        go_wp2_with fail
        go_ret2
        rw [HV.out]
        exact ⟨rfl, HG1.out⟩
      · have HV := Lib.hid (packVal_no hok)
        rw [HV.out]
        clear hok
        go_wp2_with fail
        go_ret2
        rw [HV.out]
        exact ⟨rfl, HG1.out⟩
theorem infoPairP : (Tryz.prog.info? 66).map (fun i => (i.zero, i.size, i.bytes)) = some (some (.agg #[.string ⟨#[]⟩, .string ⟨#[]⟩]), 2, 32) := by kernel_rfl
def zeroP : PR := ⟨⟨#[]⟩, ⟨#[]⟩⟩
/-- Pairs of the first j changes, and room for the others. -/
def pairsTo (L : List CR) (j : Nat) : List PR := (L.take j).map pairC ++ List.replicate (L.length - j) zeroP
theorem pairsTo_len (L : List CR) {j : Nat} (h : j ≤ L.length) : (pairsTo L j).length = L.length := by
  unfold pairsTo
  rw [List.length_append, List.length_map, List.length_take, List.length_replicate]
  omega
theorem pairsTo_set (L : List CR) {j : Nat} (h : j < L.length) : (pairsTo L j).set j (pairC L[j]) = pairsTo L (j + 1) := by
  have hl : ((L.take j).map pairC).length = j := by rw [List.length_map, List.length_take]; omega
  unfold pairsTo
  rw [List.set_append_right _ _ (by omega), hl, Nat.sub_self, show L.length - j = (L.length - (j + 1)) + 1 by omega, List.replicate_succ, List.set_cons_zero, List.take_succ_eq_append_getElem h, List.map_append, List.append_assoc]
  rfl
theorem make_prs (n : Nat) (hn : n * 32 ≤ 140737488355328) : ∀ W : World, (Instr.makeSlice 48 (.int .i64 (n : Int)) (.int .i64 (n : Int))).run Tryz.prog W = .ok (.slice (some ⟨W.heap.size, 0, none⟩) n n) (W.alloc (.cells (madeCells #[.string ⟨#[]⟩, .string ⟨#[]⟩] (n * 2)) 66)) := by
  intro W
  obtain ⟨i0, hi, hz0, hz1, hz2⟩ := info_parts infoPairP
  have h := run_make (P := Tryz.prog) W 48 66 i0 _ Tryz.underlying48 hi hz0 .i64 .i64 (n : Int) (n : Int) (by omega) (by omega) (by rw [hz2]; omega) (by omega)
  rw [hz1] at h
  simp at h
  exact h
theorem zeros_list (n : Nat) : (madeCells #[Value.string ⟨#[]⟩, Value.string ⟨#[]⟩] (n * 2)).toList = List.replicate (n * 2) (Value.string ⟨#[]⟩) := by
  rw [List.eq_replicate_iff]
  refine ⟨by simp [madeCells], fun x hx => ?_⟩
  unfold madeCells at hx
  simp only [Array.toList_map, List.mem_map] at hx
  obtain ⟨i, _, rfl⟩ := hx
  show (#[Value.string ⟨#[]⟩, Value.string ⟨#[]⟩] : Array Value)[i % 2]! = _
  have : i % 2 = 0 ∨ i % 2 = 1 := by omega
  rcases this with e | e <;> rw [e] <;> rfl
theorem pcells_zero (n : Nat) : pcells (List.replicate n zeroP) = List.replicate (n * 2) (Value.string ⟨#[]⟩) := by
  induction n with
  | zero => rfl
  | succ n ih =>
    rw [List.replicate_succ]
    show pcell zeroP ++ pcells (List.replicate n zeroP) = _
    rw [ih, show (n + 1) * 2 = n * 2 + 1 + 1 by omega, List.replicate_succ, List.replicate_succ]
    rfl
theorem made_prs (W : World) (L : List CR) (n : Nat) (hn : n = L.length) (hb : n ≤ maxLen) : PO (W.alloc (.cells (madeCells #[.string ⟨#[]⟩, .string ⟨#[]⟩] (n * 2)) 66)) W.heap.size (.slice (some ⟨W.heap.size, 0, none⟩) n n) (pairsTo L 0) := by
  have h0 : pairsTo L 0 = List.replicate n zeroP := by unfold pairsTo; rw [hn]; simp
  unfold PO
  rw [h0, List.length_replicate, pcells_zero]
  refine ⟨by simp, .inr ⟨W.heap.size, n, _, rfl, Nat.le_refl _, heap_alloc_new W _, Nat.le_refl _, hb, size_madeCells _ _, ?_⟩⟩
  rw [zeros_list, List.take_of_length_le (by simp)]
section
variable {w : World} {B g n c : Nat} {L : List PR}
theorem PO.len (h : PO w B (.slice (some ⟨g, 0, none⟩) n c) L) : n = L.length ∧ L.length ≤ c ∧ c ≤ 9223372036854775807 ∧ B ≤ g ∧ g < w.heap.size := by
  rcases h.2 with ⟨hh, _⟩ | ⟨g', cap', cur, hh, hb, hg, hn, hm, _⟩
  · cases hh
  · injection hh with h1 h2 h3
    injection h1 with h1
    injection h1 with h1
    subst h1 h2 h3
    exact ⟨rfl, hn, hm, hb, (Array.getElem?_eq_some_iff.1 hg).1⟩
theorem PO.free (h : PO w B (.slice (some ⟨g, 0, none⟩) n c) L) (j : Nat) : w.frozen? ⟨g, j, none⟩ = false := by
  obtain ⟨rfl, _⟩ := h.len
  exact h.frozenAt j
theorem PO.store (h : PO w B (.slice (some ⟨g, 0, none⟩) n c) L) {i r : Nat} (hi : i < L.length) (hr : r < 2) (f : PR) (u : Value) (hf : pcell f = (pcell L[i]).set r u) :
    PO (w.setCell ⟨g, i * 2 + r, none⟩ u) B (.slice (some ⟨g, 0, none⟩) n c) (L.set i f) := by
  obtain ⟨rfl, _⟩ := h.len
  obtain ⟨h1, _⟩ := h.stored (i * 2 + r) u
  unfold PO
  rw [List.length_set]
  have : pcells (L.set i f) = (pcells L).set (i * 2 + r) u := (rows_set pcell 2 pcell_len L i r hi hr f u hf).symm
  rw [this]
  exact h1
theorem PO.put2 (h : PO w B (.slice (some ⟨g, 0, none⟩) n c) L) {i : Nat} (hi : i < L.length) (f : PR) :
    PO ((w.setCell ⟨g, i * 2, none⟩ (.string f.key)).setCell ⟨g, i * 2 + 1, none⟩ (.string f.val)) B (.slice (some ⟨g, 0, none⟩) n c) (L.set i f) := by
  have h1 := h.store hi (r := 0) (by decide) ⟨f.key, L[i].val⟩ (.string f.key) rfl
  have h2 := h1.store (i := i) (by rw [List.length_set]; exact hi) (r := 1) (by decide) f (.string f.val) (by rw [List.getElem_set_self]; rfl)
  rw [List.set_set] at h2
  exact h2
theorem PO.at_ (h : PO w B (.slice (some ⟨g, 0, none⟩) n c) L) {i : Nat} (hi : i < L.length) : w.cell? ⟨g, i * 2, none⟩ = some (.string L[i].key) ∧ w.cell? ⟨g, i * 2 + 1, none⟩ = some (.string L[i].val) := by
  obtain ⟨b, off, ha, q0, q1⟩ := pv_cells h.pv hi
  injection ha with ha
  injection ha with a1 a2
  subst a1 a2
  rw [Nat.zero_add] at q0 q1
  exact ⟨q0, q1⟩
end
set_option maxRecDepth 100000 in
set_option maxHeartbeats 1000000 in
theorem pairsOf_any (v : Value) (L : List CR) (w : World) (hv : CV w v L) (hlen : L.length * 40 ≤ 140737488355328) (hmax : ∀ c ∈ L, c.val.size ≤ 281474976710656) :
    Calls Tryz.prog 154 #[v] w fun e w' => ∃ u, e = .returned u ∧ PO w' w.heap.size u (L.map pairC) ∧ Gr w w' := by
  obtain ⟨A, c, rfl, l1, ⟨l2, _⟩, l3⟩ := hv
  have hc63 : c ≤ 9223372036854775807 := l2
  have HP := Lib.hid l3
  have HM := Lib.hid hmax
  obtain ⟨n, hn⟩ : ∃ n, n = L.length := ⟨_, rfl⟩
  have HN := Lib.hid hn
  rw [← hn] at l1 hlen ⊢
  have hmk := make_prs n (by omega)
  have HO0 := Lib.hid (made_prs w L n hn (by unfold maxLen; omega))
  clear l2 l3 hn hmax
  go_enter Tryz.func154, Tryz.ntmps154
  go_wp2_with fail
  go_loopg [11] (n + 1) (fun kx s11 wr => ∃ j : Nat, s11 = .int .i64 (j : Int) ∧ j ≤ n ∧ n - j ≤ kx ∧ Hid (PO wr w.heap.size (.slice (some ⟨w.heap.size, 0, none⟩) n n) (pairsTo L j)) ∧ Hid (Gr w wr))
  case atStart => exact ⟨0, rfl, Nat.zero_le _, by omega, HO0, Lib.hid (gr_box _ _)⟩
  case round =>
    clear HO0
    obtain ⟨j, rfl, hj, hkx, HPO, HGR⟩ := hrel
    by_cases hlt : j < n
    · have hjL : j < L.length := by rw [← HN.out]; exact hlt
      have hjp : j < (pairsTo L j).length := by rw [pairsTo_len L (by omega)]; exact hjL
      obtain ⟨bb, off, rfl, q0, q1, q2⟩ := HP.out j hjL
      have t0 : (0 : Int) ≤ (j : Int) := by omega
      have t1 : (j : Int) < (n : Int) := by omega
      have hys := HM.out _ (List.getElem_mem hjL)
      have HFS := Lib.hid (pairsTo_set L hjL)
      obtain ⟨x, hx⟩ : ∃ x, x = L[j].key := ⟨_, rfl⟩
      obtain ⟨y, hy⟩ : ∃ y, y = L[j].val := ⟨_, rfl⟩
      obtain ⟨g, hg⟩ : ∃ y, y = L[j].gone := ⟨_, rfl⟩
      have HE : Hid (L[j] = ⟨x, y, g⟩) := Lib.hid (by rw [hx, hy, hg])
      rw [HE.out] at HFS
      rw [← hx] at q0
      rw [← hy] at q1 hys
      rw [← hg] at q2
      have c0 := HGR.out.cell q0
      have c1' := HGR.out.cell q1
      have c2' := HGR.out.cell q2
      obtain ⟨p0, p1⟩ := HPO.out.at_ hjp
      have f0 := HPO.out.free (j * 2)
      have f1 := HPO.out.free (j * 2 + 1)
      have hbw : w.heap.size < wr.heap.size := HPO.out.len.2.2.2.2
      have hps : (⟨#[112]⟩ : ByteArray).size = 1 := rfl
      have hsum : (⟨#[112]⟩ : ByteArray).size + y.size ≤ 9223372036854775807 := by rw [hps]; omega
      have HQ1 := Lib.hid (HPO.out.put2 hjp ⟨x, ⟨#[112]⟩ ++ y⟩)
      have HQ2 := Lib.hid (HQ1.out.store (i := j) (by rw [List.length_set]; exact hjp) (r := 1) (by decide) ⟨x, ⟨#[100]⟩⟩ (.string ⟨#[100]⟩) (by rw [List.getElem_set_self]; rfl))
      rw [List.set_set] at HQ2
      have HG1 := Lib.hid (Below.setCell (Below.setCell HGR.out (p := ⟨w.heap.size, j * 2, none⟩) (Nat.le_refl _) (.string x)) (p := ⟨w.heap.size, j * 2 + 1, none⟩) (Nat.le_refl _) (.string (⟨#[112]⟩ ++ y)))
      have HG2 := Lib.hid (Below.setCell HG1.out (p := ⟨w.heap.size, j * 2 + 1, none⟩) (Nat.le_refl _) (.string ⟨#[100]⟩))
      clear hx hy hg q0 q1 q2
      rcases g with _ | _
      · have HQ : Hid (PO (((wr.setCell ⟨w.heap.size, j * 2, none⟩ (.string x)).setCell ⟨w.heap.size, j * 2 + 1, none⟩ (.string (⟨#[112]⟩ ++ y))).alloc (.cells #[.string x, .string y, .bool false] 70)) w.heap.size (.slice (some ⟨w.heap.size, 0, none⟩) n n) (pairsTo L (j + 1))) := Lib.hid (by
          rw [← HFS.out]
          exact HQ1.out.gr (gr_box _ _))
        have HGQ : Hid (Gr w (((wr.setCell ⟨w.heap.size, j * 2, none⟩ (.string x)).setCell ⟨w.heap.size, j * 2 + 1, none⟩ (.string (⟨#[112]⟩ ++ y))).alloc (.cells #[.string x, .string y, .bool false] 70))) := Lib.hid (Gr.alloc HG1.out _)
        clear HFS HE HQ1 HQ2 HG1 HG2
        go_wp2_with fail
        go_roundg (n - (j + 1))
        case measure => omega
        case rel => exact ⟨j + 1, by go_num, by omega, Nat.le_refl _, HQ, HGQ⟩
      · have HQ : Hid (PO ((((wr.setCell ⟨w.heap.size, j * 2, none⟩ (.string x)).setCell ⟨w.heap.size, j * 2 + 1, none⟩ (.string (⟨#[112]⟩ ++ y))).setCell ⟨w.heap.size, j * 2 + 1, none⟩ (.string ⟨#[100]⟩)).alloc (.cells #[.string x, .string y, .bool true] 70)) w.heap.size (.slice (some ⟨w.heap.size, 0, none⟩) n n) (pairsTo L (j + 1))) := Lib.hid (by
          rw [← HFS.out]
          exact HQ2.out.gr (gr_box _ _))
        have HGQ : Hid (Gr w ((((wr.setCell ⟨w.heap.size, j * 2, none⟩ (.string x)).setCell ⟨w.heap.size, j * 2 + 1, none⟩ (.string (⟨#[112]⟩ ++ y))).setCell ⟨w.heap.size, j * 2 + 1, none⟩ (.string ⟨#[100]⟩)).alloc (.cells #[.string x, .string y, .bool true] 70))) := Lib.hid (Gr.alloc HG2.out _)
        clear HFS HE HQ1 HQ2 HG1 HG2
        go_wp2_with fail
        go_roundg (n - (j + 1))
        case measure => omega
        case rel => exact ⟨j + 1, by go_num, by omega, Nat.le_refl _, HQ, HGQ⟩
    · have hjn : j = L.length := by rw [← HN.out]; omega
      have hF : pairsTo L j = L.map pairC := by unfold pairsTo; rw [hjn, List.take_length, Nat.sub_self]; simp
      have HF := Lib.hid hF
      clear hjn hF
      go_wp2_with fail
      go_ret
      exact ⟨_, rfl, by rw [← HF.out]; exact HPO.out, HGR.out⟩
end Go.Proofs.YtlnhbndghnkfmaaGreatDoor
