/- Walks: the laws' waking: a disk that is known. -/
import Derived.Test.YtonlplfjiaejhaaLawA
import Derived.Test.YtonlplfjiaejhaaDiskC
import Derived.Test.YtonlplfjiaejhaaDiskI
namespace Go.Proofs.Ytonlplfjiaejhaa
open Go.RowKit

def oA : O := ⟨1, ⟨#[120]⟩, ⟨#[97, 98]⟩, 0⟩
def oB : O := ⟨2, ⟨#[120]⟩, ⟨#[]⟩, 0⟩
def oC : O := ⟨1, ⟨#[120]⟩, ⟨#[99, 100]⟩, 0⟩
def fA : F := ⟨⟨#[120]⟩, ⟨#[]⟩, ⟨#[97, 98]⟩⟩
def fB : F := ⟨⟨#[120]⟩, ⟨#[97, 98]⟩, ⟨#[]⟩⟩
def fC : F := ⟨⟨#[120]⟩, ⟨#[97, 98]⟩, ⟨#[99, 100]⟩⟩
def fD : F := ⟨⟨#[120]⟩, ⟨#[97, 98, 99]⟩, ⟨#[]⟩⟩
theorem find1 (f : F) (h : f.name = ⟨#[120]⟩) : findF [f] ⟨#[120]⟩ = 0 := findF_eq (k := 0) (Nat.zero_lt_succ 0) h (fun j hj => absurd hj (by omega))
theorem stA : step [] oA = (0, [fA]) := by
  have hn : nameOk oA.name = true := by decide
  have hf : findF [] oA.name = 0 := rfl
  rw [step_good (by decide) (by decide) hn, hf, stepAt_none (by decide)]
  rfl
theorem stB : step [fA] oB = (0, [fB]) := by
  have hn : nameOk oB.name = true := by decide
  have hf : findF [fA] oB.name = 0 := find1 fA rfl
  rw [step_good (by decide) (by decide) hn, hf, stepAt_some (by decide)]
  rfl
theorem stC : step [fB] oC = (0, [fC]) := by
  have hn : nameOk oC.name = true := by decide
  have hf : findF [fB] oC.name = 0 := find1 fB rfl
  rw [step_good (by decide) (by decide) hn, hf, stepAt_some (by decide)]
  rfl
theorem awake_run : run [] [oA, oB, oC] = ([fC], 3, 0) := by
  rw [run_ok (by rw [stA]), stA, run_ok (by rw [stB]), stB, run_ok (by rw [stC]), stC]
  rfl
theorem awake_crash : crash [fC] [1] = [fD] := by
  show [crashAt fC [1] 0] = [fD]
  congr 1
theorem awake_bytes : bytesF [fD] ⟨#[120]⟩ = (⟨#[97, 98, 99]⟩, 0) := by
  unfold bytesF
  rw [find1 fD rfl]
  rfl

def ocell (o : O) : List Value := [.int .i64 o.kind, .string o.name, .string o.bytes, .int .i64 o.at_]
theorem ocell_len (o : O) : (ocell o).length = 4 := rfl
def ocells (ops : List O) : List Value := ops.flatMap ocell
theorem OV.of_sl {w : World} {v : Value} {ops : List O} {n : Nat} (h : SL w 4 v n (ocells ops)) : OV w v ops := by
  obtain ⟨A, c, hv, h1, ⟨h2, h2'⟩, h3, h4⟩ := h
  have hn : ops.length = n := by
    have := rows_len ocell 4 ocell_len ops
    unfold ocells at h3
    omega
  subst hn
  refine ⟨A, c, hv, h1, ⟨h2, h2'⟩, fun j hj => ?_⟩
  have at_ : ∀ r, r < 4 → (ocells ops)[j * 4 + r]? = (ocell ops[j])[r]? := fun r hr => rows_at ocell 4 ocell_len ops j r hj hr
  obtain ⟨b, off, ha, c0⟩ := h4 (j * 4 + 0) _ (at_ 0 (by decide))
  have g : ∀ r u, r < 4 → (ocell ops[j])[r]? = some u → w.cell? ⟨b, off + j * 4 + r, none⟩ = some u := fun r u hr hu => by
    obtain ⟨b', off', ha', c'⟩ := h4 (j * 4 + r) u (by rw [at_ r hr]; exact hu)
    rw [ha] at ha'
    injection ha' with ha'
    injection ha' with e1 e2
    subst e1 e2
    rw [Nat.add_assoc]
    exact c'
  exact ⟨b, off, ha, g 0 _ (by decide) rfl, g 1 _ (by decide) rfl, g 2 _ (by decide) rfl, g 3 _ (by decide) rfl⟩
theorem OV.sl {w : World} {v : Value} {ops : List O} (h : OV w v ops) : SL w 4 v ops.length (ocells ops) := by
  obtain ⟨A, c, hv, h1, h2, h3⟩ := h
  refine ⟨A, c, hv, h1, h2, rows_len ocell 4 ocell_len ops, fun j u hj => ?_⟩
  obtain ⟨q, r, hq, hr, rfl, hu⟩ := rows_of ocell 4 ocell_len (by decide) ops j u hj
  obtain ⟨b, off, ha, c0, c1, c2, c3⟩ := h3 q hq
  refine ⟨b, off, ha, ?_⟩
  rw [← Nat.add_assoc]
  match r, hr with
  | 0, _ => injection hu with hu; rw [← hu]; exact c0
  | 1, _ => injection hu with hu; rw [← hu]; exact c1
  | 2, _ => injection hu with hu; rw [← hu]; exact c2
  | 3, _ => injection hu with hu; rw [← hu]; exact c3
theorem IV.one (w : World) : IV (w.alloc (.cells #[.int .i64 1] 3)) (.slice (some ⟨w.heap.size, 0, none⟩) 1 1) [1] := by
  refine ⟨_, 1, rfl, Nat.le_refl _, by unfold maxLen; omega, fun j hj => ?_⟩
  obtain rfl : j = 0 := by simpa using hj
  exact ⟨w.heap.size, 0, rfl, by simp, (by decide : (-9223372036854775808 : Int) ≤ 1), (by decide : (1 : Int) ≤ 9223372036854775807)⟩
def opsW : List O := [oA, oB, oC]
theorem fit_lit (L : List F) (h : ∀ f ∈ L, f = fC ∨ f = fD) : Fit L := by
  intro f hf
  rcases h f hf with rfl | rfl <;> exact ⟨by decide, by decide⟩
theorem fitO_lit : ∀ o ∈ opsW, FitO o := by
  intro o ho
  unfold opsW at ho
  simp only [List.mem_cons, List.not_mem_nil, or_false] at ho
  rcases ho with rfl | rfl | rfl <;> exact ⟨by decide, by decide, by decide, by decide⟩
def aW : Array Value := #[.int .i64 1, .string ⟨#[120]⟩, .string ⟨#[97, 98]⟩, .int .i64 0, .int .i64 2, .string ⟨#[120]⟩, .string ⟨#[]⟩, .int .i64 0, .int .i64 1, .string ⟨#[120]⟩, .string ⟨#[99, 100]⟩, .int .i64 0]
theorem obW (w : World) : ∃ W, W = w.alloc (.cells #[.int .i64 1, .string ⟨#[120]⟩, .string ⟨#[97, 98]⟩, .int .i64 0, .int .i64 2, .string ⟨#[120]⟩, .string ⟨#[]⟩, .int .i64 0, .int .i64 1, .string ⟨#[120]⟩, .string ⟨#[99, 100]⟩, .int .i64 0] 45) ∧ Gr w W ∧ OV W (.slice (some ⟨w.heap.size, 0, none⟩) 3 3) opsW :=
  ⟨_, rfl, gr_box w _, OV.of_sl (n := 3) (sl_new w aW 45 3 4 rfl (by unfold maxLen; omega))⟩

set_option maxRecDepth 100000 in
set_option maxHeartbeats 4000000 in
theorem awake_any (w : World) : Calls Try.prog 9 #[] w fun e w' => e = .returned (.bool true) ∧ Gr w w' := by
  obtain ⟨W, hW, hG, hO⟩ := obW w
  have HC := Lib.hid (do_any (.slice none 0 0) (.slice (some ⟨w.heap.size, 0, none⟩) 3 3) [] opsW W (FV.nil W) hO (fun f hf => by cases hf) fitO_lit (by decide))
  have HG := Lib.hid hG
  clear hO hG
  go_enter Try.func9, Try.ntmps9
  go_wp2_with fail
  rw [← hW]
  clear hW
  refine HC.out.mono ?_
  rintro e w1 ⟨v1, rfl, hf1, g1⟩
  have hr : run [] opsW = ([fC], 3, 0) := awake_run
  rw [hr] at hf1 ⊢
  obtain ⟨A1, c1, rfl, _, _⟩ := hf1.form
  have HF1 := Lib.hid hf1
  have HG1 := Lib.hid (HG.out.trans g1)
  clear hf1 g1 hr
  obtain ⟨W2, hW2, G2, hI2, hz2⟩ : ∃ W2, W2 = (w1.alloc (.cells #[.slice A1 1 c1] 24)).alloc (.cells #[.int .i64 1] 3) ∧ Gr w1 W2 ∧ IV W2 (.slice (some ⟨w1.heap.size + 1, 0, none⟩) 1 1) [1] ∧ w1.heap.size < W2.heap.size := by
    have h := IV.one (w1.alloc (.cells #[.slice A1 1 c1] 24))
    rw [show (w1.alloc (.cells #[.slice A1 1 c1] 24)).heap.size = w1.heap.size + 1 by simp] at h
    exact ⟨_, rfl, (gr_box w1 _).alloc _, h, by simp; omega⟩
  have HC2 := Lib.hid (crash_any (.slice A1 1 c1) _ [fC] [1] W2 (HF1.out.gr G2).fv hI2 (fit_lit _ (fun f hf => .inl (by simpa using hf))) (by decide))
  rw [awake_crash] at HC2
  have HG2 := Lib.hid (HG1.out.trans G2)
  clear hI2 G2
  go_wp2_with fail
  rw [← hW2]
  clear hW2
  refine HC2.out.mono ?_
  rintro e w3 ⟨v3, rfl, hf3, g3⟩
  obtain ⟨A3, c3, rfl, _, _⟩ := hf3.form
  have HC3 := Lib.hid (bytes_any _ [fD] ⟨#[120]⟩ w3 hf3.fv (fit_lit _ (fun f hf => .inr (by simpa using hf))))
  unfold bytesV at HC3
  rw [awake_bytes] at HC3
  have HG3 := Lib.hid (HG2.out.trans g3)
  clear hf3 g3
  go_wp2_with fail
  refine HC3.out.mono ?_
  rintro e w4 ⟨rfl, g4⟩
  have HG4 := Lib.hid (HG3.out.trans g4)
  clear g4
  go_wp2
  go_ret
  exact ⟨rfl, HG4.out⟩
end Go.Proofs.Ytonlplfjiaejhaa
