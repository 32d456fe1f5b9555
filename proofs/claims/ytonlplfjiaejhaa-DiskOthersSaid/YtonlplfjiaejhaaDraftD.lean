/- Walks: where a draft stands, where a new one goes. -/
import Derived.Test.YtonlplfjiaejhaaDraftC
namespace Go.Proofs.Ytonlplfjiaejhaa
open Go.RowKit

set_option maxRecDepth 100000 in
theorem named_any (nm x : ByteArray) (A : Option Addr) (n c : Nat) (ki : Int) (bo : Nat) (w : World) (h : w.cell? ⟨bo, 1, none⟩ = some (.string nm)) :
    Calls Try.prog 33 #[.agg #[.string x, .slice A n c, .int .i64 ki], .pointer (some ⟨bo, 0, none⟩)] w fun e w' => e = .returned (.bool (eqS x nm)) ∧ Gr w w' := by
  have h1 := (gr_box w (.cells #[.string x, .slice A n c, .int .i64 ki] 62)).cell h
  have HG := Lib.hid (gr_box w (.cells #[.string x, .slice A n c, .int .i64 ki] 62))
  clear h
  go_enter Try.func33, Try.ntmps33
  go_wp2
  go_ret
  exact ⟨rfl, HG.out⟩

def IFRel (M : List FB) (nm : ByteArray) (w : World) (i : Value) (wr : World) : Prop :=
  ∃ k : Nat, k ≤ M.length ∧ i = .int .i64 (k : Int) ∧ Gr w wr ∧ ∀ j (hj : j < (files M).length), j < k → (files M)[j].name ≠ nm
set_option maxRecDepth 100000 in
set_option maxHeartbeats 1000000 in
theorem indexFunc_any (v : Value) (M : List FB) (B : Nat) (nm : ByteArray) (bo : Nat) (w : World) (hv : DR w B v M) (hbo : w.cell? ⟨bo, 1, none⟩ = some (.string nm)) :
    Calls Try.prog 32 #[v, .func (.func 33) #[] #[.pointer (some ⟨bo, 0, none⟩)]] w fun e w' => e = .returned (.int .i64 (findI (files M) nm)) ∧ Gr w w' := by
  obtain ⟨A, c, hva, hnc, hc63⟩ := own_form hv.row
  subst hva
  have HV := Lib.hid hv
  obtain ⟨n, hn⟩ : ∃ n, n = M.length := ⟨_, rfl⟩
  rw [← hn] at HV hnc ⊢
  have HN := Lib.hid hn
  have HBO := Lib.hid hbo
  clear hv hn hbo
  go_enter Try.func32, Try.ntmps32
  go_wp2_with fail
  go_loopw [8] (fun i wr => IFRel M nm w i wr) (fun i _ => n - (intOf i).toNat)
  case atStart => exact ⟨0, Nat.zero_le _, rfl, Gr.refl _, fun j _ h => absurd h (Nat.not_lt_zero _)⟩
  case round =>
    obtain ⟨k, hk, rfl, hgr, hall⟩ := hrel
    rw [← HN.out] at hk
    have HAL := Lib.hid hall
    clear hall
    by_cases hlt : k < n
    · have hkM : k < M.length := by rw [← HN.out]; exact hlt
      obtain ⟨g, cc, hvv⟩ := HV.out.row.addr hkM
      injection hvv with h1 h2 h3
      subst h1 h3
      clear h2
      obtain ⟨q0, q1, q2⟩ := HV.out.row.at_ hkM
      have hbv := HV.out.bytes M[k] (List.getElem_mem hkM)
      obtain ⟨A1, c1, hb, _⟩ := own_form hbv
      rw [hb] at q1
      have c0 := hgr.cell q0
      have c1' := hgr.cell q1
      have c2 := hgr.cell q2
      have hfn : (files M)[k]'(by rw [files_len]; exact hkM) = M[k].1 := files_at hkM
      obtain ⟨x, hx⟩ : ∃ x, x = M[k].1.name := ⟨_, rfl⟩
      obtain ⟨N, hN⟩ : ∃ N, N = M[k].1.size := ⟨_, rfl⟩
      obtain ⟨ki, hki⟩ : ∃ N : Int, N = (M[k].1.kept.size : Int) := ⟨_, rfl⟩
      rw [← hx] at c0
      rw [← hN] at c1'
      rw [← hki] at c2
      have HC := Lib.hid (named_any nm x A1 N c1 ki bo wr (hgr.cell HBO.out))
      rcases hq : eqS x nm with _ | _
      · rw [hq] at HC
        have HA2 : Hid (∀ j (hj : j < (files M).length), j < k + 1 → (files M)[j].name ≠ nm) := by
          intro j hj hjk
          by_cases e : j = k
          · subst e; rw [hfn, ← hx]; intro e2; rw [e2, eqS_self] at hq; cases hq
          · exact HAL.out j hj (by omega)
        clear hq hx hN hki q0 q1 q2 hfn hbv hb
        go_wp2_with fail
        refine HC.out.mono ?_
        rintro e w1 ⟨rfl, g1⟩
        go_wp2_with fail
        go_roundw
        case rel => exact ⟨k + 1, by rw [← HN.out]; omega, by go_num, hgr.trans g1, HA2.out⟩
        case measure => simp [intOf]; omega
      · rw [hq] at HC
        have HF := Lib.hid (findI_at (L := files M) (nm := nm) (k := k) (by rw [files_len]; exact hkM) (by rw [hfn, ← hx]; exact eqS_iff.1 hq) (fun j hj => HAL.out j (by rw [files_len]; omega) hj))
        clear hq hx hN hki q0 q1 q2 hfn hbv hb
        go_wp2_with fail
        refine HC.out.mono ?_
        rintro e w1 ⟨rfl, g1⟩
        go_wp2_with fail
        go_ret
        exact ⟨by rw [HF.out]; rfl, hgr.trans g1⟩
    · have HF := Lib.hid (findI_none (L := files M) (nm := nm) (fun j hj => HAL.out j hj (by rw [files_len, ← HN.out] at hj; omega)))
      go_wp2_with fail
      go_ret
      exact ⟨by rw [HF.out]; rfl, hgr⟩

def NPRel (M : List FB) (nm : ByteArray) (w : World) (i : Value) (wr : World) : Prop :=
  ∃ k : Nat, k ≤ M.length ∧ i = .int .i64 (k : Int) ∧ Gr w wr ∧ ∀ j (hj : j < (files M).length), j < k → lessS (files M)[j].name nm = true
set_option maxRecDepth 100000 in
set_option maxHeartbeats 1000000 in
theorem newPlace_any (v : Value) (M : List FB) (B : Nat) (nm : ByteArray) (w : World) (hv : DR w B v M) (hno : ¬ findF (files M) nm < (files M).length) :
    Calls Try.prog 38 #[v, .string nm] w fun e w' => e = .returned (.int .i64 (placeF (files M) nm : Int)) ∧ Gr w w' := by
  obtain ⟨A, c, hva, hnc, hc63⟩ := own_form hv.row
  subst hva
  have HV := Lib.hid hv
  have HNO := Lib.hid hno
  obtain ⟨n, hn⟩ : ∃ n, n = M.length := ⟨_, rfl⟩
  rw [← hn] at HV hnc ⊢
  have HN := Lib.hid hn
  clear hv hn hno
  go_enter Try.func38, Try.ntmps38
  go_wp2_with fail
  go_loopw [9] (fun i wr => NPRel M nm w i wr) (fun i _ => n - (intOf i).toNat)
  case atStart => exact ⟨0, Nat.zero_le _, rfl, Gr.refl _, fun j _ h => absurd h (Nat.not_lt_zero _)⟩
  case round =>
    obtain ⟨k, hk, rfl, hgr, hall⟩ := hrel
    rw [← HN.out] at hk
    have HAL := Lib.hid hall
    clear hall
    by_cases hlt : k < n
    · have hkM : k < M.length := by rw [← HN.out]; exact hlt
      obtain ⟨g, cc, hvv⟩ := HV.out.row.addr hkM
      injection hvv with h1 h2 h3
      subst h1 h3
      clear h2
      obtain ⟨q0, q1, q2⟩ := HV.out.row.at_ hkM
      have hbv := HV.out.bytes M[k] (List.getElem_mem hkM)
      obtain ⟨A1, c1, hb, _⟩ := own_form hbv
      rw [hb] at q1
      have c0 := hgr.cell q0
      have c1' := hgr.cell q1
      have c2 := hgr.cell q2
      have hfn : (files M)[k]'(by rw [files_len]; exact hkM) = M[k].1 := files_at hkM
      have hne : M[k].1.name ≠ nm := by rw [← hfn]; exact findF_before (by have := HNO.out; rw [files_len] at this; omega) _
      obtain ⟨x, hx⟩ : ∃ x, x = M[k].1.name := ⟨_, rfl⟩
      obtain ⟨N, hN⟩ : ∃ N, N = M[k].1.size := ⟨_, rfl⟩
      obtain ⟨ki, hki⟩ : ∃ N : Int, N = (M[k].1.kept.size : Int) := ⟨_, rfl⟩
      rw [← hx] at c0 hne
      rw [← hN] at c1'
      rw [← hki] at c2
      have he : (x.toList == nm.toList) = false := eqS_ne hne
      rcases hq : lessS x nm with _ | _
      · have ht : Op.bytesLess x.toList nm.toList = false := hq
        have HF : Hid (placeF (files M) nm = k) := placeF_eq (L := files M) (by rw [files_len]; exact hkM) (by rw [hfn, ← hx]; exact hq) (fun j hj => HAL.out j (by rw [files_len]; omega) hj)
        clear hq hx hN hki q0 q1 q2 hfn hbv hb hne
        go_wp2_with fail
        go_ret
        exact ⟨by rw [HF.out]; rfl, hgr.alloc _⟩
      · have ht : Op.bytesLess x.toList nm.toList = true := hq
        have HA2 : Hid (∀ j (hj : j < (files M).length), j < k + 1 → lessS (files M)[j].name nm = true) := by
          intro j hj hjk
          by_cases e : j = k
          · subst e; rw [hfn, ← hx]; exact hq
          · exact HAL.out j hj (by omega)
        clear hq hx hN hki q0 q1 q2 hfn hbv hb hne
        go_wp2_with fail
        go_roundw
        case rel => exact ⟨k + 1, by rw [← HN.out]; omega, by go_num, hgr.alloc _, HA2.out⟩
        case measure => simp [intOf]; omega
    · have HF : Hid (placeF (files M) nm = n) := by
        have := placeF_none (L := files M) (nm := nm) (fun j hj => HAL.out j hj (by rw [files_len, ← HN.out] at hj; omega))
        show placeF (files M) nm = n
        rw [this, files_len, ← HN.out]
      go_wp2_with fail
      go_ret
      exact ⟨by rw [HF.out]; rfl, hgr⟩
end Go.Proofs.Ytonlplfjiaejhaa
