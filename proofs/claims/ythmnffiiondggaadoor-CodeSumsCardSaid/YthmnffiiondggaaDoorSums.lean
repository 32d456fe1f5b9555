/- CodeSums: the law's walk. -/
import Derived.Test.YthmnffiiondggaaDoorBookSum
import Derived.Test.YthmnffiiondggaaDoorSV
namespace Go.Proofs.YthmnffiiondggaaDoor
open Go.RowKit

/-- A new Book's cells. -/
def bookZ : Array Value := ((List.range 260).map (bookF 0 0 0 0)).toArray
theorem bookBuilt : Tryd.prog.built 55 (#[] : Array (Nat × Value)).toList = some bookZ := by kernel_rfl
theorem bookBoxed (W : World) : (Instr.box 55 (.agg bookZ)).run Tryd.prog W = .ok (.pointer (some ⟨W.heap.size, 0, none⟩)) (W.alloc (.cells bookZ 55)) := by
  simp [Instr.box, newVar, newRow, Value.cells]
theorem bookNew (W : World) : IsBook (W.alloc (.cells bookZ 55)) W.heap.size 0 0 0 0 := by
  have h : bookZ.size = 260 := by unfold bookZ; simp
  have := World.rowIs_alloc W bookZ 55 (bookF 0 0 0 0) (fun i hi => by rw [h] at hi; unfold bookZ; simp [hi])
  rw [h] at this
  exact this
def SumsRel (L : List ByteArray) (w : World) (b : Nat) (i : Value) (wr : World) : Prop :=
  ∃ k : Nat, k ≤ L.length ∧ i = .int .i64 k ∧ Gr w wr ∧ ((k = 0 ∧ IsBook wr b 0 0 0 0) ∨ (0 < k ∧ IsBook wr b 1 0 1 256))
/-- What block b alone has changed, b being new, is nothing of what was there. -/
theorem gr_ob {w w1 w2 : World} {b : Nat} (h : Gr w w1) (hb : w.heap.size ≤ b) (o : Ob b w1 w2) : Gr w w2 :=
  Below.grown h o h.size (fun k hk => by injection hk with hk; omega)

set_option maxRecDepth 100000 in
set_option maxHeartbeats 1600000 in
theorem sums_law (w : World) (v : Value) (L : List ByteArray) (hv : SV w v L) (_hlen : (L.length + 2) * 16 ≤ 140737488355328) (hmax : ∀ s ∈ L, s.size ≤ 281474976710656) (hH : Halves w) :
    Calls Tryd.prog 6 #[v] w fun e w' => e = .returned (.bool true) ∧ Gr w w' := by
  have H1 := Lib.hid (awake_any w hH)
  have HH := Lib.hid hH
  have hw0 : 0 < w.heap.size := by
    have h0 := hH 0 (by decide)
    have hlt : ¬ w.heap.size ≤ 0 := fun hle => by
      have hn : w.heap[0]? = none := Array.getElem?_eq_none hle
      unfold World.cell? at h0
      rw [hn] at h0
      simp at h0
    omega
  obtain ⟨A, c, rfl, l1, l2, l3⟩ := hv
  have HA := Lib.hid l3
  have HM := Lib.hid hmax
  have hc63 : c ≤ 9223372036854775807 := l2.1
  obtain ⟨n, hn⟩ : ∃ n, n = L.length := ⟨_, rfl⟩
  rw [← hn] at l1 ⊢
  have HN := Lib.hid hn
  clear hn l2 l3 hmax hH
  have hbu := fun (W : World) => run_build (P := Tryd.prog) W 55 #[] bookZ bookBuilt
  have hbo := bookBoxed
  go_enter Tryd.func6, Tryd.ntmps6
  go_wp2_with fail
  refine H1.out.mono ?_
  rintro e w1 ⟨rfl, g1⟩
  have HNW := Lib.hid (bookNew w1)
  have G2 : Gr w (w1.alloc (.cells bookZ 55)) := Gr.alloc g1 _
  have hb1 : w.heap.size ≤ w1.heap.size := g1.size
  go_wp2_with fail
  refine (made_any w1.heap.size 0 0 0 0 _ HNW.out).mono ?_
  rintro e w2 ⟨rfl, rfl⟩
  obtain ⟨b, hbe⟩ : ∃ b, b = w1.heap.size := ⟨_, rfl⟩
  rw [← hbe] at HNW hb1
  rw [← hbe]
  generalize w1.alloc (.cells bookZ 55) = w2 at *
  clear hbu hbo hbe
  go_wp2_with fail
  go_loopw [4] (fun i wr => SumsRel L w b i wr) (fun i _ => n - (intOf i).toNat)
  case atStart => exact ⟨0, Nat.zero_le _, rfl, G2, Or.inl ⟨rfl, HNW.out⟩⟩
  case round =>
    obtain ⟨k, hk, rfl, hgr, hst⟩ := hrel
    rw [← HN.out] at hk
    by_cases hlt : k < n
    · have hkL : k < L.length := by rw [← HN.out]; exact hlt
      obtain ⟨b0, off, rfl, hca0⟩ := HA.out k hkL
      have hca := hgr.cell hca0
      have hm := HM.out L[k] (List.getElem_mem hkL)
      obtain ⟨x, hx⟩ : ∃ x, x = L[k] := ⟨_, rfl⟩
      rw [← hx] at hca hca0 hm
      have hbn : b ≠ 0 := by omega
      have hdo : Calls Tryd.prog 44 #[.pointer (some ⟨b, 0, none⟩), .func (.func 45) #[.pointer (some ⟨b, 0, none⟩)] #[]] wr fun e w' => e = .returned (.tuple #[]) ∧ IsBook w' b 1 0 1 256 ∧ Ob b wr w' := by
        rcases hst with ⟨_, h0⟩ | ⟨_, h1⟩
        · exact do_new b wr h0 (HH.out.gr hgr) hbn
        · exact (do_old b 1 256 _ wr h1).mono fun e w' ⟨a, e2⟩ => ⟨a, by rw [← e2]; exact h1, by rw [← e2]; exact Ob.refl _ _⟩
      have hxm : x.size ≤ maxLen := by unfold maxLen; omega
      have H2 := Lib.hid (rsum_any x hxm wr)
      have H3 := Lib.hid (sum_any x hxm wr (HH.out.gr hgr))
      have H4 := Lib.hid (booksum_any b x hxm wr hdo)
      obtain ⟨sm, hsm⟩ : ∃ sm, sm = Crc.sum x.data.toList := ⟨_, rfl⟩
      rw [← hsm] at H2 H3 H4
      have ht : ((sm : Int) != (sm : Int)) = false := by simp
      clear hdo hst hx hsm hxm
      go_wp2_with fail
      refine H2.out.mono ?_
      rintro e w3 ⟨rfl, rfl⟩
      go_wp2_with fail
      refine H3.out.mono ?_
      rintro e w3 ⟨rfl, rfl⟩
      go_wp2_with fail
      refine H4.out.mono ?_
      rintro e w4 ⟨rfl, hb4, o4⟩
      have G4 : Gr w w4 := gr_ob hgr hb1 o4
      have HB4 := Lib.hid hb4
      clear hb4 o4
      go_wp2_with fail
      refine (made_any b 1 0 1 256 _ HB4.out).mono ?_
      rintro e w5 ⟨rfl, rfl⟩
      go_wp2
      go_roundw
      case rel => exact ⟨k + 1, by rw [← HN.out]; omega, by go_num, G4, Or.inr ⟨by omega, HB4.out⟩⟩
      case measure => simp [intOf]; omega
    · clear hst
      go_wp2
      go_ret
      exact ⟨rfl, hgr⟩
end Go.Proofs.YthmnffiiondggaaDoor
