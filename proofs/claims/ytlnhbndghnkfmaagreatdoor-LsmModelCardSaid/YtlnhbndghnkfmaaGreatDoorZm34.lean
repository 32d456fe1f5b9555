/- The library's stable sort, at changes: blocks, then merges of greater and greater blocks. A row of changes as the library's sort sees it, and back. A change laid into the front part of a row of changes, for which there is room; which of a row's changes are the last of their key. -/
import Derived.Test.YtlnhbndghnkfmaaGreatDoorZm32
import Derived.Test.YtlnhbndghnkfmaaGreatDoorZm33
import Derived.Test.YtlnhbndghnkfmaaGreatDoorZm23
import Derived.Test.YtlnhbndghnkfmaaGreatDoorZm11
namespace Go.Proofs.YtlnhbndghnkfmaaGreatDoor
open Go.Shelf Go.RowKit Go.Lib Go.Sort

theorem entersSt : ∀ args w, (callFunc 102 args).run Tryz.prog w = .ok (.enter 102 args) w := enters_of Tryz.func102 (by kernel_rfl) rfl
theorem cmpLays_any (blk off size : Nat) (w : World) : CmpLays Tryz.prog 102 #[] encT 3 cfT blk off size w := fun _ _ _ _ x y => cmpT_any x y _
theorem toldT (w0 : World) (blk off : Nat) (d0 : Array TC) (h : d0.size < 4611686018427387904) : Told rT Prod.snd cfT encT 3 102 #[] w0 blk off d0 := ⟨rT_trans, fairT, cmpLays_any _ _ _ _, entersSt, h⟩
theorem insW (blk off cap a b N : Nat) (za zb : Int) (d0 d : Array TC) (w0 w : World) (ha : za = (a : Int)) (hb : zb = (b : Int)) (hN : N = d.size) (S : SW3 encT 3 w0 blk off d0 d w) (h1 : a ≤ b) (h2 : b ≤ d.size) (hsz : d.size < 4611686018427387904) (hr : ∀ p q, a ≤ p → p < q → q < b → (at_ d p).2 < (at_ d q).2) :
    Calls Tryz.prog 164 #[.slice (some ⟨blk, off, none⟩) N cap, .int .i64 za, .int .i64 zb, .func (.func 102) #[] #[]] w fun e w' => e = .returned (.tuple #[]) ∧ ∃ d', SW3 encT 3 w0 blk off d0 d' w' ∧ Ordd rT a b (at_ d') ∧ Shuf a b (at_ d) (at_ d') := by
  subst ha hb hN
  refine (AnyQ.insertionSortCmpFunc laysIn 3 aggChange sizeChange encT encT_len S.row.h1 cfT 102 #[] blk off cap a b d w entersSt (cmpLays_any _ _ _ _) (S.sw.holds S.row.hblk S.row.hH S.same) (S.sw.lt S.row.hblk) h1 h2 hsz).mono ?_
  rintro e w' ⟨rfl, n, os, rfl⟩
  obtain ⟨r1, r2, r3⟩ := insertion_stable fairT rT_trans d h1 h2 hr
  exact ⟨rfl, _, ⟨S.size, S.row, r3.trans S.same, S.sw.on S.row.hblk n _ os r3⟩, r1, r2⟩

set_option maxRecDepth 1000000 in
set_option maxHeartbeats 8000000 in
theorem stable_any (blk off cap N : Nat) (d0 : Array TC) (w0 : World) (hN : N = d0.size) (hH : HoldsK encT 3 w0 blk off d0) (h1 : ∀ x : TC, ∀ v ∈ encT x, v.oneCell' = true) (hblk : blk < w0.heap.size) (hsz : d0.size < 1152921504606846976) (hr : Rise Prod.snd (at_ d0) d0.size) :
    Calls Tryz.prog 133 #[.slice (some ⟨blk, off, none⟩) N cap, .int .i64 (N : Int), .func (.func 102) #[] #[]] w0 fun e w' => e = .returned (.tuple #[]) ∧ ∃ d', SW3 encT 3 w0 blk off d0 d' w' ∧ Seg rT (at_ d0) 0 N (at_ d') := by
  have HN := Lib.hid hN
  have HRS := Lib.hid hr
  have S0 : Hid (SW3 encT 3 w0 blk off d0 d0 w0) := Lib.hid ⟨sizeChange, ⟨encT_len, h1, hH, hblk⟩, rfl, SWK.start hH⟩
  have HT := Lib.hid (toldT w0 blk off d0 (by omega))
  have hNz : N < 1152921504606846976 := by rw [hN]; exact hsz
  clear hN hH h1 hblk hsz hr
  go_enter Tryz.func133, Tryz.ntmps133
  go_wp2_with fail
  go_loopg [7, 8] (N + 1) (fun kx s7 s8 wr => ∃ (a : Nat) (dk : Array TC), s7 = .int .i64 (a : Int) ∧ s8 = .int .i64 ((a : Int) + 20) ∧ 20 ∣ a ∧ a ≤ N ∧ N - a ≤ kx ∧ Hid (SW3 encT 3 w0 blk off d0 dk wr) ∧ Hid (Insf rT (at_ d0) 20 a (at_ dk)))
  case atStart => exact ⟨0, d0, rfl, rfl, Nat.dvd_zero _, Nat.zero_le _, by omega, S0, Lib.hid ⟨fun x _ h2 => by omega, fun i _ => rfl⟩⟩
  case round =>
    clear S0
    obtain ⟨a, dk, rfl, rfl, hda, haN, hkx, S1, HI⟩ := hrel
    have hds : N = dk.size := HN.out.trans S1.out.same.symm
    have HDS := Lib.hid hds
    have w1 : IntKind.i64.wrap ((a : Int) + 20 + 20) = (a : Int) + 20 + 20 := by rw [IntKind.wrap_i64]; omega
    have HTG : Hid (∀ b, b ≤ N → ∀ p q, a ≤ p → p < q → q < b → (at_ dk p).2 < (at_ dk q).2) := Lib.hid (fun b hb p q q1 q2 q3 => by
      rw [HI.out.rest p q1, HI.out.rest q (by omega)]
      exact HRS.out p q q2 (by rw [← HN.out]; omega))
    by_cases hlt : a + 20 ≤ N
    · have t0 : (a : Int) + 20 ≤ (N : Int) := by omega
      have H1 := Lib.hid (insW blk off cap a (a + 20) N (a : Int) ((a : Int) + 20) d0 dk w0 wr rfl (by omega) hds S1.out (by omega) (by omega) (by omega) (HTG.out _ hlt))
      clear hds
      go_wp2_with fail
      refine H1.out.mono ?_
      rintro e w2 ⟨rfl, dn, S2, O2, F2⟩
      have HS2 := Lib.hid S2
      have HI2 := Lib.hid (HI.out.step hda O2 F2)
      clear S2 O2 F2
      go_wp2
      go_roundg (N - (a + 20))
      case measure => omega
      case rel => exact ⟨a + 20, dn, by go_num, by go_num, by omega, hlt, Nat.le_refl _, HS2, HI2⟩
    · have t0 : ¬ (a : Int) + 20 ≤ (N : Int) := by omega
      have H1 := Lib.hid (insW blk off cap a N N (a : Int) (N : Int) d0 dk w0 wr rfl rfl hds S1.out haN (by omega) (by omega) (HTG.out _ (Nat.le_refl _)))
      clear hds
      go_wp2_with fail
      refine H1.out.mono ?_
      rintro e w2 ⟨rfl, dn, S2, O2, F2⟩
      have HS2 := Lib.hid S2
      have HB2 := Lib.hid (HI.out.last hda haN (by omega) O2 F2)
      clear S2 O2 F2 S1 H1 HDS HTG HI hkx t0 w1
      go_wp2_with fail
      go_loopg [6] (N + 1) (fun kx s6 wr => ∃ (s : Nat) (dk : Array TC), s6 = .int .i64 (s : Int) ∧ 20 ≤ s ∧ s ≤ 2 * N + 20 ∧ N - s ≤ kx ∧ Hid (SW3 encT 3 w0 blk off d0 dk wr) ∧ Hid (Blocks rT (at_ d0) s N (at_ dk)))
      case atStart => exact ⟨20, dn, rfl, Nat.le_refl _, by omega, by omega, HS2, HB2⟩
      case round =>
        clear HS2 HB2 hlt haN hda
        obtain ⟨s, dk, rfl, hs20, hs2, hkx, S1, HB⟩ := hrel
        by_cases hsN : s < N
        · have v1 : IntKind.i64.wrap (2 * (s : Int)) = 2 * (s : Int) := by rw [IntKind.wrap_i64]; omega
          have v2 : IntKind.i64.wrap ((s : Int) * 2) = (s : Int) * 2 := by rw [IntKind.wrap_i64]; omega
          have HM0 := Lib.hid (Merf.start HB.out)
          go_wp2_with fail
          go_loopg [7, 8] (N + 1) (fun ky s7 s8 wr => ∃ (a : Nat) (dm : Array TC), s7 = .int .i64 (a : Int) ∧ s8 = .int .i64 ((a : Int) + 2 * (s : Int)) ∧ Hid (2 * s ∣ a) ∧ a ≤ N ∧ N - a ≤ ky ∧ Hid (SW3 encT 3 w0 blk off d0 dm wr) ∧ Hid (Merf rT (at_ d0) s N a (at_ dm)))
          case atStart => exact ⟨0, dk, rfl, by go_num, Lib.hid (Nat.dvd_zero _), Nat.zero_le _, by omega, S1, HM0⟩
          case round =>
            clear S1 HB HM0
            obtain ⟨a, dm, rfl, rfl, HDA, haN, hky, S1, HM⟩ := hrel
            have hds : N = dm.size := HN.out.trans S1.out.same.symm
            have v3 : IntKind.i64.wrap ((a : Int) + (s : Int)) = (a : Int) + (s : Int) := by rw [IntKind.wrap_i64]; omega
            have v4 : IntKind.i64.wrap ((a : Int) + 2 * (s : Int) + 2 * (s : Int)) = (a : Int) + 2 * (s : Int) + 2 * (s : Int) := by rw [IntKind.wrap_i64]; omega
            by_cases hlt : a + 2 * s ≤ N
            · have t0 : (a : Int) + 2 * (s : Int) ≤ (N : Int) := by omega
              obtain ⟨x1, x2⟩ := HM.out.halves HDA.out (by omega) (by omega)
              rw [Nat.min_eq_left hlt] at x2
              have H1 := Lib.hid (merge_any encT 3 102 #[] blk off cap d0 w0 HT.out (2 * s) a (a + s) (a + 2 * s) N (a : Int) ((a : Int) + (s : Int)) ((a : Int) + 2 * (s : Int)) dm wr rfl (by omega) (by omega) hds (by omega) (by omega) (by omega) (by omega) S1.out (seg_two (n := N) (by have := HRS.out; rwa [← HN.out] at this) hlt x1 x2))
              clear hds x1 x2
              go_wp2_with fail
              refine H1.out.mono ?_
              rintro e w2 ⟨rfl, dn, S2, O2, F2⟩
              have HS2 := Lib.hid S2
              have HM2 := Lib.hid (HM.out.step HDA.out (by omega) hlt O2 F2)
              have HDB : Hid (2 * s ∣ a + 2 * s) := Lib.hid (Nat.dvd_add HDA.out (Nat.dvd_refl _))
              clear S2 O2 F2 H1 S1 HM
              go_wp2
              go_roundg (N - (a + 2 * s))
              case measure => omega
              case rel => exact ⟨a + 2 * s, dn, by go_num, by go_num, HDB, hlt, Nat.le_refl _, HS2, HM2⟩
            · have t0 : ¬ (a : Int) + 2 * (s : Int) ≤ (N : Int) := by omega
              by_cases hm : a + s < N
              · have t1 : (a : Int) + (s : Int) < (N : Int) := by omega
                obtain ⟨x1, x2⟩ := HM.out.halves HDA.out hm (by omega)
                rw [Nat.min_eq_right (by omega)] at x2
                have H1 := Lib.hid (merge_any encT 3 102 #[] blk off cap d0 w0 HT.out N a (a + s) N N (a : Int) ((a : Int) + (s : Int)) (N : Int) dm wr rfl (by omega) rfl hds (by omega) (by omega) hm (by omega) S1.out (seg_two (n := N) (by have := HRS.out; rwa [← HN.out] at this) (Nat.le_refl _) x1 x2))
                clear hds x1 x2
                go_wp2_with fail
                refine H1.out.mono ?_
                rintro e w2 ⟨rfl, dn, S2, O2, F2⟩
                have HS2 := Lib.hid S2
                have HB2 := Lib.hid (HM.out.last HDA.out (by omega) hm (by omega) O2 F2)
                clear S2 O2 F2 H1 S1 HM
                go_wp2
                go_roundg (N - 2 * s)
                case measure => omega
                case rel => exact ⟨2 * s, dn, by go_num, by omega, by omega, Nat.le_refl _, HS2, HB2⟩
              · have t1 : ¬ (a : Int) + (s : Int) < (N : Int) := by omega
                have HB2 := Lib.hid (HM.out.left HDA.out haN (by omega))
                clear hds
                go_wp2_with fail
                go_roundg (N - 2 * s)
                case measure => omega
                case rel => exact ⟨2 * s, dm, by go_num, by omega, by omega, Nat.le_refl _, S1, HB2⟩
        · have t0 : ¬ (s : Int) < (N : Int) := by omega
          have HF := Lib.hid (HB.out.all (by omega))
          go_wp2
          go_end0
          exact ⟨rfl, dk, S1.out, HF.out⟩
theorem sortStable_any (blk off cap N : Nat) (d0 : Array TC) (w0 : World) (hN : N = d0.size) (hH : HoldsK encT 3 w0 blk off d0) (h1 : ∀ x : TC, ∀ v ∈ encT x, v.oneCell' = true) (hblk : blk < w0.heap.size) (hsz : d0.size < 1152921504606846976) (hr : Rise Prod.snd (at_ d0) d0.size) :
    Calls Tryz.prog 101 #[.slice (some ⟨blk, off, none⟩) N cap, .func (.func 102) #[] #[]] w0 fun e w' => e = .returned (.tuple #[]) ∧ ∃ d', SW3 encT 3 w0 blk off d0 d' w' ∧ Seg rT (at_ d0) 0 N (at_ d') := by
  have H1 := Lib.hid (stable_any blk off cap N d0 w0 hN hH h1 hblk hsz hr)
  clear hN hH h1 hblk hsz hr
  go_enter Tryz.func101, Tryz.ntmps101
  go_wp2_with fail
  refine H1.out.mono ?_
  rintro e w2 ⟨rfl, d', S2, F2⟩
  have HF := Lib.hid (And.intro S2 F2)
  clear S2 F2
  go_wp2_with fail
  go_end0
  exact ⟨rfl, d', HF.out.1, HF.out.2⟩
end Go.Proofs.YtlnhbndghnkfmaaGreatDoor
namespace Go.Proofs.YtlnhbndghnkfmaaGreatDoor
open Go.Shelf Go.RowKit Go.Lib Go.Sort

/-- Changes with their places as marks. -/
def tagged (L : List CR) : Array TC := L.zipIdx.toArray
theorem tagged_size (L : List CR) : (tagged L).size = L.length := by unfold tagged; simp
theorem tagged_at {L : List CR} {i : Nat} (h : i < L.length) : (tagged L)[i]! = (L[i], i) := by
  unfold tagged
  rw [getElem!_pos _ i (by simpa using h)]
  simp
theorem tagged_rise (L : List CR) : Rise Prod.snd (at_ (tagged L)) L.length := by
  intro i j h1 h2
  unfold at_
  rw [tagged_at (by omega), tagged_at h2]
  exact h1
theorem encT_one (x : TC) : ∀ v ∈ encT x, v.oneCell' = true := by
  intro v hv
  unfold encT ccell at hv
  simp only [List.mem_cons, List.not_mem_nil, or_false] at hv
  rcases hv with rfl | rfl | rfl <;> rfl
theorem flat_at (d : Array TC) {j : Nat} (h : j < d.size * 3) : (ccells (d.toList.map Prod.fst))[j]? = some (flatK encT 3 d)[j]! := by
  rw [get_flatK encT 3 d j h]
  have hq : j / 3 < d.size := by omega
  have e := rows_at ccell 3 ccell_len (d.toList.map Prod.fst) (j / 3) (j % 3) (by simpa using hq) (by omega)
  rw [show j / 3 * 3 + j % 3 = j by omega] at e
  show ((d.toList.map Prod.fst).flatMap ccell)[j]? = _
  rw [e, getElem!_pos d (j / 3) hq]
  have hl : (encT d[j / 3]).length = 3 := rfl
  rw [getElem!_pos (encT d[j / 3]) (j % 3) (by omega)]
  rw [List.getElem_map, List.getElem?_eq_getElem (by rw [ccell_len]; omega)]
  simp [encT]
theorem tagged_fst (L : List CR) : (tagged L).toList.map Prod.fst = L := by
  unfold tagged
  simp
theorem holds_of_own {w : World} {B g c n : Nat} {L : List CR} (h : CO w B (.slice (some ⟨g, 0, none⟩) n c) L) (hn : n = L.length) : HoldsK encT 3 w g 0 (tagged L) := by
  subst hn
  intro j hj
  rw [size_flatK, tagged_size] at hj
  have e := flat_at (tagged L) (j := j) (by rw [tagged_size]; exact hj)
  rw [tagged_fst] at e
  refine ⟨?_, ?_⟩
  · have := World.ownsRow.cells h (g := g) rfl j _ e
    rw [Go.WideShapes.add_plain] at this
    exact this
  · exact (own_some h (j := j) (by have := (own_len h).1; omega)).2 |> fun q => by rw [Nat.zero_add]; exact q
theorem sw_heap {w0 w' : World} {g t : Nat} {d' : Array TC} {cur : Array Value} (h : SWK encT 3 w0 g 0 d' w') (hg : w0.heap[g]? = some (.cells cur t (0, 0))) : ∃ cur', w'.heap[g]? = some (.cells cur' t (0, 0)) ∧ cur'.size = cur.size := by
  obtain ⟨n, os, rfl⟩ := h
  have hlt : g < w0.heap.size := (Array.getElem?_eq_some_iff.1 hg).1
  unfold sortWorldK
  refine ⟨putCells id 0 (flatK encT 3 d') cur, ?_, by simp [putCells]⟩
  show ((putRowK encT 3 (Sort.ahead w0 n) g 0 d').heap ++ os)[g]? = _
  rw [Array.getElem?_append_left (by rw [size_putRowK]; exact hlt)]
  show (w0.heap.modify g (onCells _))[g]? = _
  have hg' : w0.heap[g] = .cells cur t (0, 0) := (Array.getElem?_eq_some_iff.1 hg).2
  rw [Array.getElem?_eq_getElem (by simpa using hlt), Array.getElem_modify, if_pos rfl, hg']
  rfl
theorem sw_kp {w0 w' : World} {g : Nat} {d' : Array TC} (h : SWK encT 3 w0 g 0 d' w') : Kp (some g) w0 w' := by
  obtain ⟨n, os, rfl⟩ := h
  refine ⟨rfl, rfl, rfl, by unfold sortWorldK; rw [size_grow, size_putRowK]; exact Nat.le_add_right _ _, fun k hk hr => ?_⟩
  show ((putRowK encT 3 (Sort.ahead w0 n) g 0 d').heap ++ os)[k]? = _
  rw [Array.getElem?_append_left (by rw [size_putRowK]; exact hk)]
  show (w0.heap.modify g (onCells _))[k]? = _
  rw [Array.getElem?_eq_getElem (by simpa using hk), Array.getElem_modify, if_neg (fun e => hr (by rw [e])), Array.getElem?_eq_getElem hk]
theorem own_of_sw {w0 w' : World} {B g c : Nat} {L : List CR} {d' : Array TC} (h : CO w0 B (.slice (some ⟨g, 0, none⟩) L.length c) L) (S : SW3 encT 3 w0 g 0 (tagged L) d' w') : CO w' B (.slice (some ⟨g, 0, none⟩) L.length c) (d'.toList.map Prod.fst) := by
  have hs : d'.size = L.length := by rw [S.same, tagged_size]
  have hl : (d'.toList.map Prod.fst).length = L.length := by simpa using hs
  rcases h.2 with ⟨hv, _⟩ | ⟨g', cap, cur, hv, hb, hg, hn, hm, hc, _⟩
  · cases hv
  · injection hv with e1 e2 e3
    injection e1 with e1
    injection e1 with e1
    subst e1 e3
    obtain ⟨cur', hg', hcs⟩ := sw_heap S.sw hg
    have hh := S.sw.holds S.row.hblk S.row.hH S.same
    refine ⟨by rw [ccells_len], .inr ⟨g, c, cur', by rw [hl], hb, hg', by rw [hl]; exact hn, hm, by rw [hcs, hc], ?_⟩⟩
    rw [hl]
    apply List.ext_getElem?
    intro j
    by_cases hj : j < L.length * 3
    · have e := flat_at d' (j := j) (by rw [hs]; exact hj)
      rw [e]
      have hq := (hh j (by rw [size_flatK, hs]; exact hj)).1
      rw [Nat.zero_add] at hq
      have hjc : j < cur'.size := by rw [hcs, hc]; have := Nat.mul_le_mul_right 3 hn; omega
      unfold World.cell? at hq
      simp only [hg'] at hq
      rw [List.getElem?_take, if_pos hj]
      simpa using hq
    · rw [List.getElem?_eq_none (by rw [List.length_take]; omega), List.getElem?_eq_none (by rw [ccells_len, hl]; omega)]
/-- What a sort leaves stands without going down, and says the same of each key. -/
theorem seg_lastK {L : List CR} {d' : Array TC} (hs : d'.size = L.length) (h : Seg rT (at_ (tagged L)) 0 L.length (at_ d')) : flatC (d'.toList.map Prod.fst) ∧ ∀ k, lastK (d'.toList.map Prod.fst) k = lastK L k := by
  have hm : ∀ {p : Nat} (hp : p < (d'.toList.map Prod.fst).length), (d'.toList.map Prod.fst)[p] = (at_ d' p).1 := fun {p} hp => by
    have hq : p < d'.size := by simpa using hp
    unfold at_
    rw [getElem!_pos d' p hq, List.getElem_map]
    simp
  have hlen : (d'.toList.map Prod.fst).length = L.length := by simpa using hs
  have hfrom : ∀ p, p < L.length → ∃ (j : Nat) (hj : j < L.length), at_ d' p = (L[j], j) := fun p hp => by
    obtain ⟨j, _, hj, e⟩ := h.there p (Nat.zero_le _) hp
    exact ⟨j, hj, e.trans (tagged_at hj)⟩
  refine ⟨?_, fun k => ?_⟩
  · unfold flatC
    rw [List.pairwise_iff_getElem]
    intro i j hi hj hij
    rw [hm hi, hm hj]
    rcases h.ord i j (Nat.zero_le _) hij (by omega) with q | ⟨q, _⟩
    · exact lessS_asymm q
    · rw [q]; exact lessS_irrefl _
  · cases hl : lastK L k with
    | none =>
      have hn := lastK_none_iff.1 hl
      refine lastK_none_of fun c hc => ?_
      obtain ⟨p, hp, e⟩ := List.mem_iff_getElem.1 hc
      obtain ⟨j, hj, e2⟩ := hfrom p (by omega)
      rw [← e, hm hp, e2]
      exact hn _ (List.getElem_mem hj)
    | some c =>
      obtain ⟨i, hi, h1, h2, h3⟩ := lastK_at hl
      obtain ⟨p, _, hp, e⟩ := h.back i (Nat.zero_le _) hi
      have ep : at_ d' p = (L[i], i) := e.trans (tagged_at hi)
      have hp' : p < (d'.toList.map Prod.fst).length := by omega
      have e1 : (d'.toList.map Prod.fst)[p] = c := by rw [hm hp', ep]; exact h1
      rw [← e1]
      refine lastK_of hp' (by rw [e1]; exact h2) (fun q hq hpq => ?_)
      obtain ⟨j, hj, e2⟩ := hfrom q (by omega)
      have hr := h.ord p q (Nat.zero_le _) hpq (by omega)
      rw [ep, e2] at hr
      rw [hm hq, e2]
      intro hk
      have hk' : L[j].key = k := hk
      rcases hr with hr | ⟨_, hr⟩
      · have hr' : lessS L[i].key L[j].key = true := hr
        rw [h1, h2, hk', lessS_irrefl] at hr'
        cases hr'
      · exact h3 j hj hr hk'
/-- Of each key the last change, rising. -/
theorem seg_puts {L : List CR} {d' : Array TC} (hs : d'.size = L.length) (h : Seg rT (at_ (tagged L)) 0 L.length (at_ d')) : lastsC (d'.toList.map Prod.fst) = puts [] L := by
  obtain ⟨h1, h2⟩ := seg_lastK hs h
  refine rising_ext (lastsC_rising h1) (puts_rising L rising_nil) fun k => ?_
  rw [lastsC_look h1, h2, look_puts L k rising_nil, look_nil]
  cases lastK L k <;> rfl
end Go.Proofs.YtlnhbndghnkfmaaGreatDoor
namespace Go.Proofs.YtlnhbndghnkfmaaGreatDoor
open Go.RowKit

/-- Is the change at i the last of its neighbours of one key? -/
def isLast (S : List CR) (i : Nat) : Bool := match S[i]?, S[i + 1]? with
  | some a, some b => !eqS b.key a.key
  | _, _ => true
/-- The last ones among the first i. -/
def keptTo (S : List CR) : Nat → List CR
  | 0 => []
  | i + 1 => keptTo S i ++ (if isLast S i then (S[i]?).toList else [])
theorem keptTo_le (S : List CR) (i : Nat) : (keptTo S i).length ≤ i := by
  induction i with
  | zero => exact Nat.le_refl _
  | succ i ih =>
    show (keptTo S i ++ _).length ≤ _
    rw [List.length_append]
    split
    · cases S[i]? <;> simp <;> omega
    · simp; omega
theorem keptTo_cons (x : CR) (S : List CR) (i : Nat) : keptTo (x :: S) (i + 1) = (if isLast (x :: S) 0 then [x] else []) ++ keptTo S i := by
  induction i with
  | zero =>
    show [] ++ (if isLast (x :: S) 0 then ((x :: S)[0]?).toList else []) = _
    simp [keptTo]
  | succ i ih =>
    show keptTo (x :: S) (i + 1) ++ (if isLast (x :: S) (i + 1) then ((x :: S)[i + 1]?).toList else []) = _
    rw [ih, List.append_assoc]
    rfl
theorem keptTo_all : ∀ S : List CR, keptTo S S.length = lastsC S
  | [] => rfl
  | [x] => by
    rw [show [x].length = 0 + 1 from rfl, keptTo_cons]
    rfl
  | x :: y :: r => by
    rw [show (x :: y :: r).length = (y :: r).length + 1 from rfl, keptTo_cons, keptTo_all (y :: r), lastsC_two]
    show (if (!eqS y.key x.key) = true then [x] else []) ++ _ = _
    cases eqS y.key x.key <;> simp
theorem keptTo_yes {S : List CR} {i : Nat} (h : i < S.length) (hl : isLast S i = true) : keptTo S (i + 1) = keptTo S i ++ [S[i]] := by
  show keptTo S i ++ _ = _
  rw [if_pos hl, List.getElem?_eq_getElem h]
  rfl
theorem keptTo_no {S : List CR} {i : Nat} (hl : isLast S i = false) : keptTo S (i + 1) = keptTo S i := by
  show keptTo S i ++ _ = _
  rw [if_neg (by rw [hl]; decide), List.append_nil]
theorem isLast_end {S : List CR} {i : Nat} (h : S.length ≤ i + 1) : isLast S i = true := by
  unfold isLast
  rw [List.getElem?_eq_none (i := i + 1) h]
  cases S[i]? <;> rfl
theorem isLast_mid {S : List CR} {i : Nat} (h : i + 1 < S.length) : isLast S i = !eqS S[i + 1].key S[i].key := by
  unfold isLast
  rw [List.getElem?_eq_getElem h, List.getElem?_eq_getElem (show i < S.length by omega)]

theorem set_rows (M : List CR) (q : Nat) (x : CR) (hq : q < M.length) : ccells (M.set q x) = (ccells M).take (q * 3) ++ ccell x ++ (ccells M).drop (q * 3 + 3) := by
  have e : M.set q x = M.take q ++ [x] ++ M.drop (q + 1) := by
    rw [List.set_eq_take_append_cons_drop, if_pos hq]
    simp
  rw [e]
  unfold ccells
  rw [List.flatMap_append, List.flatMap_append, rows_take ccell 3 ccell_len, show q * 3 + 3 = (q + 1) * 3 by omega, rows_drop ccell 3 ccell_len]
  simp
set_option maxRecDepth 100000 in
/-- A change comes into a row's place q, behind its first q ones. -/
theorem run_push_in {W : World} {B g n c q : Nat} {M : List CR} {x : CR} (hown : CO W B (.slice (some ⟨g, 0, none⟩) n c) M) (hn : n = M.length) (hq : q < n) (T : TypeId) {vx : Value} (hx : CV W vx [x]) :
    ∃ w', (Builtin.append_ #[27, 27] T #[.slice (some ⟨g, 0, none⟩) q c, vx]).run Tryz.prog W = .ok (.slice (some ⟨g, 0, none⟩) (q + 1) c) w' ∧ CO w' B (.slice (some ⟨g, 0, none⟩) n c) (M.set q x) ∧ Kp (some g) W w' := by
  subst hn
  obtain ⟨i0, hi, hz0, hz1, hz2⟩ := info_parts infoChange
  obtain ⟨A, c', rfl, _, _, hc⟩ := hx
  obtain ⟨b, off, rfl, hcell⟩ := hc 0 (by simp)
  rcases hown.2 with ⟨hv, _⟩ | ⟨g', cap, cur, hv, hb, hg, hnn, hm, hcs, htake⟩
  · cases hv
  · injection hv with e1 e2 e3
    injection e1 with e1
    injection e1 with e1
    subst e1 e3
    have hcm : q * 3 + 3 ≤ M.length * 3 := by omega
    have hcc : M.length * 3 ≤ cur.size := by rw [hcs]; exact Nat.mul_le_mul_right _ hnn
    have hr := run_append_room (P := Tryz.prog) W 27 T 70 i0 Tryz.underlying27 hi g q c cur hg ⟨b, off, none⟩ 1 c' (ccell x) (by rw [ccell_len, hz1]) (fun j u hj => by
      rw [Go.WideShapes.add_plain]
      obtain ⟨q0, q1, q2⟩ := hcell
      rw [Nat.zero_mul, Nat.add_zero] at q0 q1 q2
      match j, hj with
      | 0, hj => injection hj with hj; rw [← hj]; exact q0
      | 1, hj => injection hj with hj; rw [← hj]; exact q1
      | 2, hj => injection hj with hj; rw [← hj]; exact q2) (fun u hu => by
      unfold ccell at hu
      simp only [List.mem_cons, List.not_mem_nil, or_false] at hu
      rcases hu with rfl | rfl | rfl <;> rfl) (by omega) (by rw [ccell_len, hz1]; omega)
    rw [hz1, ccell_len] at hr
    refine ⟨_, hr, ⟨by rw [ccells_len], .inr ⟨g, c, _, by rw [List.length_set], hb, setRow_heap W g cur _ _ _ hg, by rw [List.length_set]; exact hnn, hm, ?_, ?_⟩⟩, ⟨rfl, rfl, rfl, by simp, fun k _ hk => setRow_other W g k _ (fun e => hk (by rw [e]))⟩⟩
    · simp only [List.size_toArray, List.length_append, List.length_take, List.length_drop, Array.length_toList, ccell_len]
      omega
    · rw [List.length_set, set_rows M q x (by omega), ← htake]
      show List.take (M.length * 3) (cur.toList.take (q * 3) ++ ccell x ++ cur.toList.drop (q * 3 + 3)) = _
      have hl1 : (cur.toList.take (q * 3) ++ ccell x).length = q * 3 + 3 := by rw [List.length_append, List.length_take, ccell_len, Array.length_toList]; omega
      rw [List.take_append, hl1, List.take_of_length_le (by rw [hl1]; omega), List.take_take, Nat.min_eq_left (by omega), List.drop_take]
theorem wpList_push_in {W : World} {ops : Array Oper} {rest : List Oper} {o : Oper} {a : Act} {Q : Exit → Act → World → Prop} (hw : Region.wanted o (yielded ops a.tmps) = true) (s x : Operand)
    (ho : o.op = .call { callee := .builtin .append, args := #[s, x], argTypes := #[27, 27] })
    (B g n c q : Nat) (vx : Value) (M : List CR) (y : CR) (hn : n = M.length) (hs : a.eval s = .slice (some ⟨g, 0, none⟩) q c) (hown : CO W B (.slice (some ⟨g, 0, none⟩) n c) M) (hq : q < n) (hx : a.eval x = vx) (hxv : CV W vx [y])
    (h : ∀ w', CO w' B (.slice (some ⟨g, 0, none⟩) n c) (M.set q y) → Kp (some g) W w' → wpList Tryz.prog ops Q rest (a.put o.dst (.slice (some ⟨g, 0, none⟩) (q + 1) c)) w') :
    wpList Tryz.prog ops Q (o :: rest) a W := by
  refine Go.BigFrame.wpList_want hw (fun K hK => ?_)
  obtain ⟨w', hr, h1, h2⟩ := run_push_in hown hn hq o.type hxv
  unfold Oper.wp execOp
  simp only [ho, resolve, invoke, builtin, Sem.run_bind, Sem.run_pure, Result.andThen_ok, List.map_toArray, List.map_cons, List.map_nil, hs, hx, hr]
  exact hK _ _ (h w' h1 h2)
end Go.Proofs.YtlnhbndghnkfmaaGreatDoor
