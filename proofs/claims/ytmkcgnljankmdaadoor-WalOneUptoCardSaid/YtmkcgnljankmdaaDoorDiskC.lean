/- Walks: all bytes of a file, the document's and the program's; comparing two disks. -/
import Derived.Test.YtmkcgnljankmdaaDoorDiskB
namespace Go.Proofs.YtmkcgnljankmdaaDoor
open Go.RowKit

theorem bytesF_yes {L : List F} {nm : ByteArray} (h : findF L nm < L.length) : bytesF L nm = (L[findF L nm].kept ++ L[findF L nm].loose, 0) := by
  unfold bytesF
  rw [List.getElem?_eq_getElem h]
theorem bytesF_no {L : List F} {nm : ByteArray} (h : ¬ findF L nm < L.length) : bytesF L nm = (⟨#[]⟩, 30) := by
  unfold bytesF
  rw [List.getElem?_eq_none (by omega)]
def bytesV (L : List F) (nm : ByteArray) : Value := .tuple #[.string (bytesF L nm).1, .int .i64 (bytesF L nm).2]
theorem bytesV_yes {L : List F} {nm : ByteArray} {i : Nat} (h : i < L.length) (hi : findF L nm = i) {x y : ByteArray} (hx : x = L[i].kept) (hy : y = L[i].loose) : bytesV L nm = .tuple #[.string (x ++ y), .int .i64 0] := by
  subst hi hx hy
  unfold bytesV
  rw [bytesF_yes h]; rfl
theorem bytesV_no {L : List F} {nm : ByteArray} (h : ¬ findF L nm < L.length) : bytesV L nm = .tuple #[.string ⟨#[]⟩, .int .i64 30] := by
  unfold bytesV
  rw [bytesF_no h]; rfl

set_option maxRecDepth 100000 in
theorem rbytes_any (v : Value) (L : List F) (nm : ByteArray) (w : World) (hv : FV w v L) (hf : Fit L) :
    Calls Tryd.prog 28 #[.agg #[v], .string nm] w fun e w' => e = .returned (bytesV L nm) ∧ Gr w w' := by
  have HB := Lib.hid (fun (w1 : World) (g : Gr w w1) => rfind_any v L nm w1 (hv.gr g))
  obtain ⟨A, c, rfl, l1, ⟨l2, _⟩, l3⟩ := hv
  have hc63 : c ≤ 9223372036854775807 := l2
  have HA := Lib.hid l3
  have HFit := Lib.hid hf
  obtain ⟨n, hn⟩ : ∃ n, n = L.length := ⟨_, rfl⟩
  rw [← hn] at l1 HB ⊢
  have HN := Lib.hid hn
  clear l3 l2 hn hf
  have HG := fun A => Lib.hid (gr_box w (.cells #[.slice A n c] 24))
  by_cases hi : findF L nm < L.length
  · obtain ⟨i, hii⟩ : ∃ i, i = findF L nm := ⟨_, rfl⟩
    have hfi : findI L nm = (i : Int) := by rw [findI_yes hi, hii]
    rw [← hii] at hi
    obtain ⟨b, off, rfl, -, hc1, hc2⟩ := HA.out i hi
    have hfit := HFit.out _ (List.getElem_mem hi)
    unfold FitF F.size at hfit
    obtain ⟨x, hx⟩ : ∃ x, x = L[i].kept := ⟨_, rfl⟩
    obtain ⟨y, hy⟩ : ∃ y, y = L[i].loose := ⟨_, rfl⟩
    rw [← hx] at hc1 hfit
    rw [← hy] at hc2 hfit
    have hs := hfit.2
    have HF := Lib.hid (bytesV_yes hi hii.symm hx hy)
    rw [← HN.out] at hi
    have C1 := Lib.hid hc1
    have C2 := Lib.hid hc2
    rw [hfi] at HB
    clear hfit hii hx hy hfi hc1 hc2
    go_enter Tryd.func28, Tryd.ntmps28
    go_wp2_with fail
    refine (HB.out _ (HG _).out).mono ?_
    rintro e w1 ⟨rfl, g1⟩
    have hb0 : w1.cell? ⟨w.heap.size, 0, none⟩ = some (.slice (some ⟨b, off, none⟩) n c) := g1.cell (by simp [World.cell?_alloc_mark])
    have c1 := g1.cell ((HG _).out.cell C1.out)
    have c2 := g1.cell ((HG _).out.cell C2.out)
    have G1 := (HG _).out.trans g1
    go_wp2_with fail
    go_quiet (fail)
    go_wp2
    go_ret2
    exact ⟨by rw [HF.out]; rfl, G1.drewN _⟩
  · have hfi := findI_no hi
    have HF := Lib.hid (bytesV_no hi)
    rw [hfi] at HB
    clear hfi hi
    go_enter Tryd.func28, Tryd.ntmps28
    go_wp2_with fail
    refine (HB.out _ (HG _).out).mono ?_
    rintro e w1 ⟨rfl, g1⟩
    have G1 := (HG _).out.trans g1
    go_wp2_with fail
    go_ret2
    exact ⟨by rw [HF.out]; rfl, G1⟩

def BytesRel (L : List F) (nm : ByteArray) (w : World) (i : Value) (wr : World) : Prop :=
  ∃ k : Nat, k ≤ L.length ∧ i = .int .i64 k ∧ Gr w wr ∧ ∀ j (hj : j < L.length), j < k → L[j].name ≠ nm
end Go.Proofs.YtmkcgnljankmdaaDoor
