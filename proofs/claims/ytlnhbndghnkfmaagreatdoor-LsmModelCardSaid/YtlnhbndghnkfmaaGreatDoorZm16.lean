/- Walks: all bytes of a file, the document's and the program's; comparing two disks. Walks: opening a log, the document's. Walks: opening a log, the document's: its records and its plan. Walks: what the laws of the log share: comparing records, comparing plans, the laws' waking. Walks: the laws' look for two files of one name; the law WalGone: a log that was dropped. Walks: which files a store uses, the program's. -/
import Derived.Test.YtlnhbndghnkfmaaGreatDoorZm11
import Derived.Test.YtlnhbndghnkfmaaGreatDoorZm14
import Derived.Deep.RegionHeld3
import Derived.Test.YtlnhbndghnkfmaaGreatDoorZm12
import Derived.Test.YtlnhbndghnkfmaaGreatDoorZm15
import Derived.Test.YtlnhbndghnkfmaaGreatDoorZm05
namespace Go.Proofs.YtlnhbndghnkfmaaGreatDoor
open Go.RowKit

theorem bytesF_yes {L : List F} {nm : ByteArray} (h : findF L nm < L.length) : bytesF L nm = (L[findF L nm].kept ++ L[findF L nm].loose, 0) := by
  unfold bytesF
  rw [List.getElem?_eq_getElem h]
theorem bytesF_no {L : List F} {nm : ByteArray} (h : ¬ findF L nm < L.length) : bytesF L nm = (⟨#[]⟩, 30) := by
  unfold bytesF
  rw [List.getElem?_eq_none (by omega)]
def bytesV (L : List F) (nm : ByteArray) : Value := .tuple #[.string (bytesF L nm).1, .int .i64 (bytesF L nm).2]
theorem bytesV_yes {L : List F} {nm : ByteArray} {i : Nat} (h : i < L.length) (hi : findF L nm = i) {x y : ByteArray} (hx : x = L[i].kept) (hy : y = L[i].loose) : bytesV L nm = .tuple #[.string (x ++ y), .int .i64 0] := by
  subst hi hx hy
  unfold bytesV
  rw [bytesF_yes h]; rfl
theorem bytesV_no {L : List F} {nm : ByteArray} (h : ¬ findF L nm < L.length) : bytesV L nm = .tuple #[.string ⟨#[]⟩, .int .i64 30] := by
  unfold bytesV
  rw [bytesF_no h]; rfl

def BytesRel (L : List F) (nm : ByteArray) (w : World) (i : Value) (wr : World) : Prop :=
  ∃ k : Nat, k ≤ L.length ∧ i = .int .i64 k ∧ Gr w wr ∧ ∀ j (hj : j < L.length), j < k → L[j].name ≠ nm
set_option maxRecDepth 100000 in
theorem bytes_any (v : Value) (L : List F) (nm : ByteArray) (w : World) (hv : FV w v L) (hf : Fit L) :
    Calls Tryz.prog 57 #[.agg #[v], .string nm] w fun e w' => e = .returned (bytesV L nm) ∧ Gr w w' := by
  obtain ⟨A, c, rfl, l1, ⟨l2, _⟩, l3⟩ := hv
  have hc63 : c ≤ 9223372036854775807 := l2
  have HA := Lib.hid l3
  have HFit := Lib.hid hf
  obtain ⟨n, hn⟩ : ∃ n, n = L.length := ⟨_, rfl⟩
  rw [← hn] at l1 ⊢
  have HN := Lib.hid hn
  clear l3 l2 hn hf
  have HG := fun A => Lib.hid (gr_box w (.cells #[.slice A n c] 24))
  go_enter Tryz.func57, Tryz.ntmps57
  go_wp2_with fail
  go_loopw [11] (fun i wr => BytesRel L nm w i wr) (fun i _ => n - (intOf i).toNat)
  case atStart => exact ⟨0, Nat.zero_le _, rfl, (HG _).out, fun j _ h => absurd h (Nat.not_lt_zero _)⟩
  case round =>
    obtain ⟨k, hk, rfl, hgr, hall⟩ := hrel
    rw [← HN.out] at hk
    have HAL := Lib.hid hall
    clear hall
    by_cases hlt : k < n
    · have hkL : k < L.length := by rw [← HN.out]; exact hlt
      obtain ⟨b, off, rfl, hc0, hc1, hc2⟩ := HA.out k hkL
      have c0 := hgr.cell hc0
      have c1 := hgr.cell hc1
      have c2 := hgr.cell hc2
      clear hc0 hc1 hc2
      have hfit := HFit.out _ (List.getElem_mem hkL)
      unfold FitF F.size at hfit
      have hs := hfit.2
      clear hfit
      obtain ⟨nx, hnx⟩ : ∃ x, x = L[k].name := ⟨_, rfl⟩
      obtain ⟨x, hx⟩ : ∃ x, x = L[k].kept := ⟨_, rfl⟩
      obtain ⟨y, hy⟩ : ∃ y, y = L[k].loose := ⟨_, rfl⟩
      rw [← hnx] at c0
      rw [← hx] at c1 hs
      rw [← hy] at c2 hs
      rcases hq : eqS nx nm with _ | _
      · have ht : (nx.toList == nm.toList) = false := hq
        have HA2 : Hid (∀ j (hj : j < L.length), j < k + 1 → L[j].name ≠ nm) := by
          intro j hj hjk
          by_cases e : j = k
          · subst e; rw [← hnx]; intro e2; rw [e2, eqS_self] at hq; cases hq
          · exact HAL.out j hj (by omega)
        clear hq hnx hx hy hkL
        go_wp2_with fail
        go_roundw
        case rel => exact ⟨k + 1, by rw [← HN.out]; omega, by go_num, hgr.alloc _, HA2.out⟩
        case measure => simp [intOf]; omega
      · have ht : (nx.toList == nm.toList) = true := hq
        have hii := findF_eq hkL (by rw [← hnx]; exact eqS_iff.1 hq) (fun j hj => HAL.out j (by omega) hj)
        have HF := Lib.hid (bytesV_yes hkL hii hx hy)
        have hz : (x ++ y).size ≤ 281474976710656 := by rw [ByteArray.size_append]; exact hs
        have HC := Lib.hid (fun w => clone_any (x ++ y) hz w)
        clear hq hnx hx hy hkL hii hz
        go_wp2_with fail
        refine (HC.out _).mono ?_
        rintro e w1 ⟨rfl, g1⟩
        go_wp2_with fail
        go_ret2
        exact ⟨by rw [HF.out]; rfl, (hgr.alloc _).trans g1⟩
    · have HF := Lib.hid (bytesV_no (L := L) (nm := nm) (by rw [findF_none (fun j hj => HAL.out j hj (by rw [← HN.out] at hj; omega))]; omega))
      go_wp2_with fail
      go_ret2
      exact ⟨by rw [HF.out]; rfl, hgr⟩
end Go.Proofs.YtlnhbndghnkfmaaGreatDoor
namespace Go.Proofs.YtlnhbndghnkfmaaGreatDoor
open Go.RowKit

abbrev RSC (A : Option Addr) (n c : Nat) (w w' : World) : Prop := w'.cell? ⟨w.heap.size, 0, none⟩ = some (.slice A n c) ∧ Gr w w'
theorem RSC.gr {A : Option Addr} {n c : Nat} {w w1 w2 : World} (h : RSC A n c w w1) (g : Gr w1 w2) : RSC A n c w w2 := ⟨g.cell h.1, h.2.trans g⟩
end Go.Proofs.YtlnhbndghnkfmaaGreatDoor
namespace Go.Proofs.YtlnhbndghnkfmaaGreatDoor
open Go.RowKit

abbrev RSD (A : Option Addr) (n c b : Nat) (w2 w' : World) : Prop := w'.cell? ⟨b, 0, none⟩ = some (.slice A n c) ∧ Gr w2 w'
theorem RSD.gr {A : Option Addr} {n c b : Nat} {w2 w1 w3 : World} (h : RSD A n c b w2 w1) (g : Gr w1 w3) : RSD A n c b w2 w3 := ⟨g.cell h.1, h.2.trans g⟩
end Go.Proofs.YtlnhbndghnkfmaaGreatDoor
namespace Go.Proofs.YtlnhbndghnkfmaaGreatDoor
open Go.RowKit

end Go.Proofs.YtlnhbndghnkfmaaGreatDoor
namespace Go.Proofs.YtlnhbndghnkfmaaGreatDoor
open Go.RowKit

/-- What opening answers, whatever the prefix. -/
def openR (L : List F) (p : ByteArray) : List (List UInt8) × List O × Nat := if prefixB p = true then ((openW L p).1, (openW L p).2, 0) else ([], [], 1)
theorem fv_form {w : World} {v : Value} {L : List F} (h : FV w v L) : ∃ A n c, v = .slice A n c := by
  obtain ⟨A, c, hv, _⟩ := h
  exact ⟨A, _, c, hv⟩
theorem open_any (v : Value) (L : List F) (p : ByteArray) (w : World) (hv : FV w v L) (hps : p.size ≤ 9223372036854775807) (hf : Fit L) (hsm : ∀ f ∈ segL L p, f.size ≤ 1048576) (hlen : L.length * 48 ≤ 140737488355328) (hH : Halves w) :
    Calls Tryz.prog 113 #[.agg #[v], .string p] w fun e w' => RetOpen (openR L p).1 (openR L p).2.1 (openR L p).2.2 w e w' := by
  rcases hp : prefixB p with _ | _
  · have e : openR L p = ([], [], 1) := by unfold openR; rw [hp]; rfl
    rw [e]
    exact open_no v p w hp hps (fv_form hv)
  · have e : openR L p = ((openW L p).1, (openW L p).2, 0) := by unfold openR; rw [hp]; rfl
    rw [e]
    exact open_yes v L p w hv hp hf hsm hlen hH
end Go.Proofs.YtlnhbndghnkfmaaGreatDoor
namespace Go.Proofs.YtlnhbndghnkfmaaGreatDoor
open Go.RowKit

theorem mem_drops {p : ByteArray} {a : Nat} {o : O} : ∀ {t : Nat}, o ∈ dropsO p a t → ∃ i, i < t ∧ o = dropO p i
  | 0, h => by cases h
  | t + 1, h => by
    by_cases ha : a ≤ t
    · rw [dropsO_in ha] at h
      rcases List.mem_cons.1 h with e | h
      · exact ⟨t, Nat.lt_succ_self t, e⟩
      · obtain ⟨i, hi, e⟩ := mem_drops h
        exact ⟨i, by omega, e⟩
    · rw [dropsO_out (by omega)] at h
      cases h
theorem fitO_drop {p : ByteArray} (hp : p.size ≤ 1000) (i : Nat) : FitO (dropO p i) := by
  refine ⟨⟨(by decide : (-9223372036854775808 : Int) ≤ 4), (by decide : (4 : Int) ≤ 9223372036854775807)⟩, ⟨(by decide : (-9223372036854775808 : Int) ≤ 0), (by decide : (0 : Int) ≤ 9223372036854775807)⟩, ?_, (by decide : 0 ≤ 281474976710656)⟩
  show (nameW p i).size ≤ _
  rw [nameW_size]
  omega
theorem fitO_sync {p : ByteArray} (hp : p.size ≤ 1000) (i : Nat) : FitO (syncO p i) := by
  refine ⟨⟨(by decide : (-9223372036854775808 : Int) ≤ 2), (by decide : (2 : Int) ≤ 9223372036854775807)⟩, ⟨(by decide : (-9223372036854775808 : Int) ≤ 0), (by decide : (0 : Int) ≤ 9223372036854775807)⟩, ?_, (by decide : 0 ≤ 281474976710656)⟩
  show (nameW p i).size ≤ _
  rw [nameW_size]
  omega
theorem fitO_cut {p : ByteArray} (hp : p.size ≤ 1000) (i : Nat) {k : Nat} (hk : k ≤ 1048576) : FitO (cutO p i k) := by
  refine ⟨⟨(by decide : (-9223372036854775808 : Int) ≤ 3), (by decide : (3 : Int) ≤ 9223372036854775807)⟩, ⟨?_, ?_⟩, ?_, (by decide : 0 ≤ 281474976710656)⟩
  · show (-9223372036854775808 : Int) ≤ (k : Int)
    omega
  · show (k : Int) ≤ _
    omega
  · show (nameW p i).size ≤ _
    rw [nameW_size]
    omega
theorem fitO_write {p : ByteArray} (hp : p.size ≤ 1000) (i : Nat) {fr : ByteArray} (hk : fr.size ≤ 1048576) : FitO (writeO p i fr) := by
  refine ⟨⟨(by decide : (-9223372036854775808 : Int) ≤ 1), (by decide : (1 : Int) ≤ 9223372036854775807)⟩, ⟨(by decide : (-9223372036854775808 : Int) ≤ 0), (by decide : (0 : Int) ≤ 9223372036854775807)⟩, ?_, ?_⟩
  · show (nameW p i).size ≤ _
    rw [nameW_size]
    omega
  · show fr.size ≤ _
    omega
theorem fitO_open {L : List F} {p : ByteArray} (hp : p.size ≤ 1000) (hsm : ∀ f ∈ segL L p, f.size ≤ 1048576) : ∀ o ∈ (openW L p).2, FitO o := by
  intro o ho
  unfold openW at ho
  rcases open_cases (p := p) (m := (segL L p).length) (segL L p) 0 with h | ⟨j, hj, _, _, h3⟩
  · rw [open_whole _ 0 h] at ho
    cases ho
  · rw [h3] at ho
    rcases List.mem_append.1 ho with h | h
    · obtain ⟨i, _, rfl⟩ := mem_drops h
      exact fitO_drop hp i
    · rw [List.mem_singleton.1 h]
      exact fitO_cut hp _ (Nat.le_trans (recs_le _) (hsm _ (List.getElem_mem hj)))

/-- So far no two files have one name. -/
def Uniq (L : List F) (a : Nat) : Prop := ∀ x (hx : x < L.length), x < a → ∀ y (hy : y < L.length), y < x → L[x].name ≠ L[y].name
theorem Uniq.all {L : List F} (h : Uniq L L.length) : Dist L := by
  unfold Dist
  refine List.pairwise_iff_getElem.2 (fun i j hi hj hij => ?_)
  rw [List.length_map] at hi hj
  simp only [List.getElem_map]
  exact fun e => h j hj hj i hi hij e.symm
end Go.Proofs.YtlnhbndghnkfmaaGreatDoor
namespace Go.Proofs.YtlnhbndghnkfmaaGreatDoor
open Go.RowKit

theorem hasPre_any (s q : ByteArray) (hs : s.size ≤ 9223372036854775807) (w : World) :
    Calls Tryz.prog 146 #[.string s, .string q] w fun e w' => e = .returned (.bool (cutP s q)) ∧ w = w' := by
  have H1 := Lib.hid (hasPrefix_any s q hs w)
  go_enter Tryz.func146, Tryz.ntmps146
  go_wp2_with fail
  refine H1.out.mono ?_
  rintro e w1 ⟨rfl, rfl⟩
  go_wp2_with fail
  go_ret
  exact ⟨rfl, rfl⟩
/-- Is the name the prefix, a point and more? -/
def behindB (p nm : ByteArray) : Bool := cutP nm (p ++ dotB) && decide (p.size + 1 < nm.size)
theorem behind_any (p nm : ByteArray) (hp : p.size ≤ 1000000) (hs : nm.size ≤ 9223372036854775807) (w : World) :
    Calls Tryz.prog 148 #[.string p, .string nm] w fun e w' => e = .returned (.bool (behindB p nm)) ∧ w = w' := by
  have hq : (p ++ dotB).size = p.size + 1 := dot_size p
  have hsum : p.size + 1 ≤ 9223372036854775807 := by omega
  rcases hc : cutP nm (p ++ dotB) with _ | _
  · have H1 := Lib.hid (cutp_no nm (p ++ dotB) hs hc w)
    have HB : Hid (behindB p nm = false) := Lib.hid (by unfold behindB; rw [hc]; rfl)
    unfold dotB at H1
    clear hc hq
    go_enter Tryz.func148, Tryz.ntmps148
    go_wp2_with fail
    refine H1.out.mono ?_
    rintro e w1 ⟨rfl, rfl⟩
    go_wp2_with fail
    go_ret
    exact ⟨by rw [HB.out]; rfl, rfl⟩
  · have H1 := Lib.hid (cutp_yes nm (p ++ dotB) hs hc w)
    rw [hq] at H1
    unfold dotB at H1
    obtain ⟨rs, hrs⟩ : ∃ r, r = nm.extract (p.size + 1) nm.size := ⟨_, rfl⟩
    rw [← hrs] at H1
    have hrz : rs.size = nm.size - (p.size + 1) := by rw [hrs, ByteArray.size_extract]; omega
    by_cases hz : p.size + 1 < nm.size
    · have HB : Hid (behindB p nm = true) := Lib.hid (by unfold behindB; rw [hc, decide_eq_true hz]; rfl)
      have hne : rs.toList ≠ [] := by
        intro e
        have := size_empty.1 e
        omega
      have he : rs.toList.isEmpty = false := by
        cases h : rs.toList with
        | nil => exact absurd h hne
        | cons a l => rfl
      clear hc hq hrs hrz hz
      go_enter Tryz.func148, Tryz.ntmps148
      go_wp2_with fail
      refine H1.out.mono ?_
      rintro e w1 ⟨rfl, rfl⟩
      go_wp2_with fail
      go_ret
      exact ⟨by rw [HB.out]; simp, rfl⟩
    · have HB : Hid (behindB p nm = false) := Lib.hid (by unfold behindB; rw [hc, decide_eq_false hz]; rfl)
      have hne : rs.toList = [] := size_empty.2 (by omega)
      clear hc hq hrs hrz hz
      go_enter Tryz.func148, Tryz.ntmps148
      go_wp2_with fail
      refine H1.out.mono ?_
      rintro e w1 ⟨rfl, rfl⟩
      go_wp2_with fail
      go_ret
      exact ⟨by rw [HB.out]; simp, rfl⟩
def hasS (L : List ByteArray) (s : ByteArray) : Bool := L.any fun x => eqS s x
set_option maxRecDepth 100000 in
theorem contains_any (v : Value) (L : List ByteArray) (s : ByteArray) (w : World) (hv : SV w v L) :
    Calls Tryz.prog 149 #[v, .string s] w fun e w' => e = .returned (.bool (hasS L s)) ∧ Gr w w' := by
  have H1 : Hid (Calls Tryz.prog 176 #[v, .string s] w fun e w' => (∃ k : Int, e = .returned (.int .i64 k) ∧ ((0 ≤ k) ↔ hasS L s = true)) ∧ Gr w w') := Lib.hid (by
    obtain ⟨A, c, rfl, l1, ⟨l2, _⟩, l3⟩ := hv
    have hc63 : c ≤ 9223372036854775807 := l2
    have HP := Lib.hid l3
    obtain ⟨n, hn⟩ : ∃ n, n = L.length := ⟨_, rfl⟩
    have HN := Lib.hid hn
    rw [← hn] at l1 ⊢
    clear l2 l3 hn
    go_enter Tryz.func176, Tryz.ntmps176
    go_wp2_with fail
    go_loopg [8] (n + 1) (fun kx s8 wr => ∃ j : Nat, s8 = .int .i64 (j : Int) ∧ j ≤ n ∧ n - j ≤ kx ∧ Hid (∀ i (h : i < L.length), i < j → eqS s L[i] = false) ∧ Hid (Gr w wr))
    case atStart => exact ⟨0, rfl, Nat.zero_le _, by omega, Lib.hid (fun i _ h => absurd h (Nat.not_lt_zero _)), Lib.hid (Gr.refl _)⟩
    case round =>
      obtain ⟨j, rfl, hj, hkx, HB, HG⟩ := hrel
      by_cases hlt : j < n
      · have hjL : j < L.length := by rw [← HN.out]; exact hlt
        obtain ⟨b, off, rfl, q0⟩ := HP.out j hjL
        have c0 := HG.out.cell q0
        obtain ⟨x, hx⟩ : ∃ x, x = L[j] := ⟨_, rfl⟩
        rw [← hx] at c0
        have t0 : (0 : Int) ≤ (j : Int) := by omega
        have t1 : (j : Int) < (n : Int) := by omega
        obtain ⟨q, hq⟩ : ∃ q, q = eqS s x := ⟨_, rfl⟩
        have tq : (s.toList == x.toList) = q := hq.symm
        have HX : Hid (eqS s L[j] = q) := Lib.hid (by rw [← hx, hq])
        clear q0 hx hq
        rcases q with _ | _
        · have HB2 : Hid (∀ i (h : i < L.length), i < j + 1 → eqS s L[i] = false) := Lib.hid (fun i h hi => by
            by_cases e : i = j
            · subst e; exact HX.out
            · exact HB.out i h (by omega))
          go_wp2_with fail
          go_roundg (n - (j + 1))
          case measure => omega
          case rel => exact ⟨j + 1, by go_num, by omega, Nat.le_refl _, HB2, HG⟩
        · have HY : Hid (hasS L s = true) := Lib.hid (by
            unfold hasS
            rw [List.any_eq_true]
            exact ⟨L[j], List.getElem_mem hjL, HX.out⟩)
          go_wp2_with fail
          go_ret
          exact ⟨⟨(j : Int), rfl, by rw [HY.out]; simp⟩, HG.out⟩
      · have HY : Hid (hasS L s = false) := Lib.hid (by
          unfold hasS
          rw [List.any_eq_false]
          intro x hx
          obtain ⟨i, hi, e⟩ := List.mem_iff_getElem.1 hx
          rw [← e, HB.out i hi (by rw [← HN.out] at hi; omega)]
          decide)
        go_wp2_with fail
        go_ret
        exact ⟨⟨-1, rfl, by rw [HY.out]; simp⟩, HG.out⟩)
  clear hv
  go_enter Tryz.func149, Tryz.ntmps149
  go_wp2_with fail
  refine H1.out.mono ?_
  rintro e w1 ⟨⟨k, rfl, hk⟩, g1⟩
  have HG := Lib.hid g1
  rcases hb : hasS L s with _ | _
  · have t0 : ¬ (0 : Int) ≤ k := fun h => by rw [hk.1 h] at hb; cases hb
    have HBV := Lib.hid hb
    clear hk g1 hb
    go_wp2_with fail
    go_ret
    exact ⟨by rw [HBV.out]; first | rfl | (simp; done) | (simp; omega), HG.out⟩
  · have t0 : (0 : Int) ≤ k := hk.2 hb
    have HBV := Lib.hid hb
    clear hk g1 hb
    go_wp2_with fail
    go_ret
    exact ⟨by rw [HBV.out]; first | rfl | (simp; done) | (simp; omega), HG.out⟩
/-- The manifest's prefix. -/
def mP : ByteArray := ⟨#[109]⟩
/-- Does a store of these tables and this generation use the file? -/
def ownB (T : List ByteArray) (g : Nat) (nm : ByteArray) : Bool := behindB mP nm || behindB (logW g) nm || hasS T nm
def strayS (T : List ByteArray) (g : Nat) (nm : ByteArray) : Bool := nameOk nm && !ownB T g nm
set_option maxRecDepth 100000 in
set_option maxHeartbeats 1000000 in
theorem stray_any (bd : Nat) (vT : Value) (T : List ByteArray) (g : Nat) (nm : ByteArray) (w : World) (hs : nm.size ≤ 9223372036854775807) (hg : g ≤ 9223372036854775807) (c2 : w.cell? ⟨bd, 2, none⟩ = some vT) (c3 : w.cell? ⟨bd, 3, none⟩ = some (.int .i64 (g : Int))) (hT : SV w vT T) :
    Calls Tryz.prog 116 #[.pointer (some ⟨bd, 0, none⟩), .string nm] w fun e w' => e = .returned (.bool (strayS T g nm)) ∧ Gr w w' := by
  have h1 := fun w => name_any nm hs w
  have H2 := Lib.hid (fun w => behind_any mP nm (by decide) hs w)
  have H3 := Lib.hid (fun w => behind_any (logW g) nm (by rw [logW_size]; decide) hs w)
  have H4 := Lib.hid (fun w => logPrefix_any g hg w)
  have H5 := Lib.hid (fun w1 (q : Gr w w1) => contains_any vT T nm w1 (hT.gr q))
  unfold mP at H2
  have HC : Hid (w.cell? ⟨bd, 3, none⟩ = some (.int .i64 (g : Int)) ∧ w.cell? ⟨bd, 2, none⟩ = some vT) := Lib.hid ⟨c3, c2⟩
  have hsb : strayS T g nm = (nameOk nm && !(behindB ⟨#[109]⟩ nm || behindB (logW g) nm || hasS T nm)) := rfl
  rcases hn : nameOk nm with _ | _
  · rw [hn] at h1 hsb
    have H1 := Lib.hid h1
    have HS := Lib.hid hsb
    clear h1 hsb hn c2 c3 hT
    go_enter Tryz.func116, Tryz.ntmps116
    go_wp2_with fail
    refine (H1.out _).mono ?_
    rintro e w1 ⟨rfl, rfl⟩
    go_wp2_with fail
    go_ret
    exact ⟨by rw [HS.out]; rfl, Gr.refl _⟩
  · rw [hn] at h1 hsb
    have H1 := Lib.hid h1
    rcases hm : behindB ⟨#[109]⟩ nm with _ | _
    · rcases hl : behindB (logW g) nm with _ | _
      · rcases ht : hasS T nm with _ | _
        all_goals
          rw [hm] at H2 hsb
          rw [hl] at H3 hsb
          rw [ht] at H5 hsb
          have HS := Lib.hid hsb
          clear h1 hsb hn hm hl ht hT
          go_enter Tryz.func116, Tryz.ntmps116
          go_wp2_with fail
          refine (H1.out _).mono ?_
          rintro e w1 ⟨rfl, rfl⟩
          go_wp2_with fail
          refine (H2.out _).mono ?_
          rintro e w1 ⟨rfl, rfl⟩
          go_wp2_with fail
          refine (H4.out _).mono ?_
          rintro e w1 ⟨rfl, g1⟩
          have c2' := g1.cell c2
          have HG := Lib.hid g1
          clear g1 c2 c3
          go_wp2_with fail
          refine (H3.out _).mono ?_
          rintro e w2 ⟨rfl, rfl⟩
          go_wp2_with fail
          refine (H5.out _ HG.out).mono ?_
          rintro e w3 ⟨rfl, g3⟩
          have HG3 := Lib.hid (HG.out.trans g3)
          clear g3
          go_wp2_with fail
          go_ret
          exact ⟨by rw [HS.out]; rfl, HG3.out⟩
      · rw [hm] at H2 hsb
        rw [hl] at H3 hsb
        have HS := Lib.hid hsb
        clear h1 hsb hn hm hl hT H5
        go_enter Tryz.func116, Tryz.ntmps116
        go_wp2_with fail
        refine (H1.out _).mono ?_
        rintro e w1 ⟨rfl, rfl⟩
        go_wp2_with fail
        refine (H2.out _).mono ?_
        rintro e w1 ⟨rfl, rfl⟩
        go_wp2_with fail
        refine (H4.out _).mono ?_
        rintro e w1 ⟨rfl, g1⟩
        have HG := Lib.hid g1
        clear g1 c2 c3
        go_wp2_with fail
        refine (H3.out _).mono ?_
        rintro e w2 ⟨rfl, rfl⟩
        go_wp2_with fail
        go_ret
        exact ⟨by rw [HS.out]; rfl, HG.out⟩
    · rw [hm] at H2 hsb
      have HS := Lib.hid hsb
      clear h1 hsb hn hm hT H5 H3 H4 c2 c3
      go_enter Tryz.func116, Tryz.ntmps116
      go_wp2_with fail
      refine (H1.out _).mono ?_
      rintro e w1 ⟨rfl, rfl⟩
      go_wp2_with fail
      refine (H2.out _).mono ?_
      rintro e w1 ⟨rfl, rfl⟩
      go_wp2_with fail
      go_ret
      exact ⟨by rw [HS.out]; rfl, Gr.refl _⟩
end Go.Proofs.YtlnhbndghnkfmaaGreatDoor
