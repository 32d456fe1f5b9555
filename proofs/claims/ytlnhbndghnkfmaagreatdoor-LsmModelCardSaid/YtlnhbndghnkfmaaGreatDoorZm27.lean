/- Walks: one operation; the operations in order. Walks: drafts, the program's: what a call answers, a plan that is done. -/
import Derived.Test.YtlnhbndghnkfmaaGreatDoorZm26
import Derived.Test.YtlnhbndghnkfmaaGreatDoorZm20
import Derived.Test.YtlnhbndghnkfmaaGreatDoorZm13
namespace Go.Proofs.YtlnhbndghnkfmaaGreatDoor
open Go.RowKit

set_option maxRecDepth 100000 in
theorem do1_any (v : Value) (M : List FB) (o : O) (B : Nat) (w : World) (hv : DR w B v M) (hB : B ≤ w.heap.size) (hf : Fit (files M)) (ho : FitO o) :
    Calls Tryz.prog 172 #[v, .agg #[.int .i64 o.kind, .string o.name, .string o.bytes, .int .i64 o.at_]] w fun e w' => RetDraft (files M) o B v M w e w' := by
  obtain ⟨kd, nm, bts, at_⟩ := o
  show Calls Tryz.prog 172 #[v, .agg #[.int .i64 kd, .string nm, .string bts, .int .i64 at_]] w fun e w' => RetDraft (files M) ⟨kd, nm, bts, at_⟩ B v M w e w'
  by_cases h1 : kd < 1
  · exact do_low v M kd nm bts at_ B w hv hB hf ho h1
  by_cases h4 : 4 < kd
  · exact do_high v M kd nm bts at_ B w hv hB hf ho h4
  rcases hnm : nameOk nm with _ | _
  · exact do_badname v M kd nm bts at_ B w hv hB hf ho (by omega) (by omega) hnm
  by_cases hfd : findF (files M) nm < M.length
  · by_cases e1 : kd = 1
    · subst e1
      by_cases hsz : 1048576 < M[findF (files M) nm].1.size + bts.size
      · exact do_longold v M nm bts at_ B w hv hB hf ho hnm _ rfl hfd hsz
      · exact do_grow v M nm bts at_ B w hv hB hf ho hnm _ rfl hfd hsz
    by_cases e2 : kd = 2
    · subst e2
      exact do_sync v M nm bts at_ B w hv hB hf ho hnm _ rfl hfd
    by_cases e3 : kd = 3
    · subst e3
      by_cases ha : at_ < 0
      · exact do_cutlow v M nm bts at_ B w hv hB hf ho hnm _ rfl hfd ha
      by_cases hs : (M[findF (files M) nm].1.size : Int) < at_
      · exact do_cuthigh v M nm bts at_ B w hv hB hf ho hnm _ rfl hfd ha hs
      obtain ⟨k, rfl⟩ := Int.eq_ofNat_of_zero_le (show 0 ≤ at_ by omega)
      exact do_cut v M nm bts k B w hv hB hf ho hnm _ rfl hfd (by omega)
    obtain rfl : kd = 4 := by omega
    exact do_drop v M nm bts at_ B w hv hB hf ho hnm _ rfl hfd
  · by_cases e1 : kd = 1
    · subst e1
      by_cases h64 : 64 ≤ M.length
      · exact do_full v M nm bts at_ B w hv hB hf ho hnm hfd h64
      by_cases hsz : 1048576 < bts.size
      · exact do_longnew v M nm bts at_ B w hv hB hf ho hnm hfd h64 hsz
      · exact do_new v M nm bts at_ B w hv hB hf ho hnm hfd h64 hsz
    · exact do_nofile v M kd nm bts at_ B w hv hB hf ho (by omega) (by omega) e1 hnm hfd

structure DoInv (L : List F) (ops : List O) (k : Nat) (v : Value) (M : List FB) (w wr : World) : Prop where
  hk : k ≤ ops.length
  hrun : run L ops = bump k (run (files M) (ops.drop k))
  dr : DR wr (w.heap.size + 1 + 1) v M
  fit : Fit (files M)
  len : M.length ≤ max L.length 64
  gr : Gr w wr
  lo : w.heap.size + 1 < wr.heap.size
  cr : wr.cell? ⟨w.heap.size + 1, 0, none⟩ = some (.slice none 0 0)
  fr : wr.frozen? ⟨w.heap.size + 1, 0, none⟩ = false
def DoRel (L : List F) (ops : List O) (w : World) (v : Value) (i : Value) (wr : World) : Prop := ∃ (k : Nat) (A : Option Addr) (n c : Nat) (M : List FB), v = .slice A n c ∧ i = .int .i64 (k : Int) ∧ DoInv L ops k (.slice A n c) M w wr
set_option maxRecDepth 100000 in
theorem DoInv.rel {L : List F} {ops : List O} {k : Nat} {v : Value} {M : List FB} {w wr : World} (h : DoInv L ops k v M w wr) {i : Value} (hi : i = .int .i64 (k : Int)) : DoRel L ops w v i wr := by
  obtain ⟨A, c, hv, _⟩ := own_form h.dr.row
  exact ⟨k, A, _, c, M, hv, hi, by rw [← hv]; exact h⟩
set_option maxRecDepth 100000 in
theorem DoInv.next {L : List F} {ops : List O} {k : Nat} {v v' : Value} {M M' : List FB} {o : O} {w wr w' : World} (inv : DoInv L ops k v M w wr) (hk : k < ops.length) (ho : o = ops[k]) (he : (step (files M) o).1 = 0) (hf : files M' = (step (files M) o).2)
    (hd : DR w' (w.heap.size + 1 + 1) v' M') (hb : Below (w.heap.size + 1 + 1) wr w') : DoInv L ops (k + 1) v' M' w w' := by
  have hdr : ops.drop k = o :: ops.drop (k + 1) := by rw [ho]; exact List.drop_eq_getElem_cons hk
  have hlo := inv.lo
  refine ⟨by omega, ?_, hd, by rw [hf]; exact step_fit inv.fit, ?_, Below.trans inv.gr (Below.mono hb (by omega)), Nat.lt_of_lt_of_le hlo hb.size, ?_, ?_⟩
  · rw [inv.hrun, hdr, run_ok he, bump_bump, Nat.add_comm 1 k, hf]
  · have := step_len (L := files M) (o := o)
    rw [← hf, files_len, files_len] at this
    have := inv.len
    omega
  · rw [hb.cell (p := ⟨w.heap.size + 1, 0, none⟩) (show w.heap.size + 1 < w.heap.size + 1 + 1 by omega)]; exact inv.cr
  · rw [hb.frozen (p := ⟨w.heap.size + 1, 0, none⟩) (show w.heap.size + 1 < w.heap.size + 1 + 1 by omega)]; exact inv.fr
set_option maxRecDepth 100000 in
theorem DoInv.no {L : List F} {ops : List O} {k : Nat} {v : Value} {M : List FB} {o : O} {w wr : World} (inv : DoInv L ops k v M w wr) (hk : k < ops.length) (ho : o = ops[k]) (he : (step (files M) o).1 ≠ 0) : run L ops = (files M, k, (step (files M) o).1) := by
  have hd : ops.drop k = o :: ops.drop (k + 1) := by rw [ho]; exact List.drop_eq_getElem_cons hk
  rw [inv.hrun, hd, run_no he]
  simp [bump]
set_option maxRecDepth 100000 in
theorem DoInv.end_ {L : List F} {ops : List O} {k : Nat} {v : Value} {M : List FB} {w wr : World} (inv : DoInv L ops k v M w wr) (hk : ¬ k < ops.length) : run L ops = (files M, ops.length, 0) := by
  have := inv.hk
  have e : k = ops.length := by omega
  rw [inv.hrun, List.drop_of_length_le (by omega), e]
  simp [run, bump]
set_option maxRecDepth 100000 in
/-- The last store: the disk. -/
theorem RetDo.mk {L L' : List F} {ops : List O} {k e0 : Nat} {v : Value} {w w2 : World} {e : Ending} (hr : run L ops = (L', k, e0)) (hg : Gr w w2) {B : Nat} (hB : w.heap.size + 1 < B) (hv : FO w2 B v L') (he : e = .returned (.tuple #[.agg #[v], .int .i64 (k : Int), .int .i64 (e0 : Int)])) (u : Value) :
    RetDo L ops w e (w2.setCell ⟨w.heap.size + 1, 0, none⟩ u) := by
  refine ⟨v, by rw [hr]; exact he, ?_, Below.setCell hg (show w.heap.size ≤ w.heap.size + 1 by omega) _⟩
  rw [hr]
  refine FO.le (FO.set hv (fun g hg e => ?_) 0 u) (by omega)
  have := (World.ownsRow.lt hv g hg).1
  omega

set_option maxRecDepth 100000 in
set_option maxHeartbeats 4000000 in
theorem do_any (v vo : Value) (L : List F) (ops : List O) (w : World) (hv : FV w v L) (ho : OV w vo ops) (hf : Fit L) (hfo : ∀ o ∈ ops, FitO o) (hlen : L.length * 48 ≤ 140737488355328) :
    Calls Tryz.prog 142 #[.agg #[v], vo] w fun e w' => RetDo L ops w e w' := by
  obtain ⟨A, c, hva, _⟩ := id hv
  obtain ⟨Ao, co, hvo, ol, ⟨oc, _⟩, o3⟩ := id ho
  have HV := Lib.hid hv
  have HOO := Lib.hid o3
  have HFO := Lib.hid hfo
  have hoc63 : co ≤ 9223372036854775807 := oc
  subst hva hvo
  have HC := Lib.hid (fun (w1 : World) (g : Gr w w1) => draftsOf_any _ L w1 (HV.out.gr g) hf (by omega))
  clear hv ho o3 hfo oc
  obtain ⟨n, hn⟩ : ∃ n, n = L.length := ⟨_, rfl⟩
  obtain ⟨m, hm⟩ : ∃ n, n = ops.length := ⟨_, rfl⟩
  have HN := Lib.hid hn
  have HM := Lib.hid hm
  rw [← hn] at HC HV
  rw [← hn, ← hm]
  rw [← hm] at ol
  clear hn hm
  go_enter Tryz.func142, Tryz.ntmps142
  go_wp2_with fail
  refine (HC.out _ ((gr_box w _).alloc _)).mono ?_
  rintro e w1 ⟨v1, M1, rfl, hfl, hdr, g1⟩
  have HST : Hid (DoRel L ops w v1 (.int .i64 0) w1) := by
    refine DoInv.rel (k := 0) (M := M1) ⟨Nat.zero_le _, by rw [List.drop_zero, bump_zero, hfl], hdr.le (by simp), by rw [hfl]; exact hf, ?_, ((gr_box w _).alloc _).trans g1, by have := g1.size; simp at this; omega, g1.cell (by simp), g1.frozen (by simp) (by simp)⟩ rfl
    rw [← files_len, hfl]
    exact Nat.le_max_left _ _
  clear hfl hdr g1 hf
  go_wp2_with fail
  go_loopw [7, 16] (fun v i wr => DoRel L ops w v i wr) (fun _ i _ => m - (intOf i).toNat)
  case atStart => exact HST.out
  case round =>
    obtain ⟨k, Av, nv, cv, M, rfl, rfl, inv⟩ := hrel
    have HI := Lib.hid inv
    have hkm : k ≤ m := by rw [HM.out]; exact inv.hk
    clear inv HST
    by_cases hlt : k < m
    · obtain ⟨b, off, rfl, hc0⟩ := HOO.out k (by rw [← HM.out]; exact hlt)
      obtain ⟨o, hoe⟩ : ∃ o, o = ops[k]'(by rw [← HM.out]; exact hlt) := ⟨_, rfl⟩
      rw [← hoe] at hc0
      have hfo : FitO o := HFO.out o (by rw [hoe]; exact List.getElem_mem _)
      have HOE := Lib.hid hoe
      obtain ⟨h0, h1, h2, h3⟩ := hc0
      have r0 := HI.out.gr.cell h0
      have r1 := HI.out.gr.cell h1
      have r2 := HI.out.gr.cell h2
      have r3 := HI.out.gr.cell h3
      obtain ⟨W3, hW3, G3, x0, x1, x2, x3, hz3⟩ := obox o wr
      have HC1 := Lib.hid (do1_any (.slice Av nv cv) M o (w.heap.size + 1 + 1) W3 (HI.out.dr.gr G3) (by have := HI.out.lo; have := G3.size; omega) HI.out.fit hfo)
      have HG3 := Lib.hid G3
      clear hoe h0 h1 h2 h3 hfo G3
      go_upto_region 5 with (fail)
      rw [← hW3]
      clear hW3 r0 r1 r2 r3
      go_wp2_with fail
      refine HC1.out.mono ?_
      rintro e w4 ⟨hb, ⟨he, v4, M4, rfl, hf4, hd4⟩ | ⟨he, rfl, hd4⟩⟩
      · have HQ := Lib.hid (HI.out.next (by rw [← HM.out]; exact hlt) HOE.out he hf4 hd4 (Below.trans (Below.mono HG3.out (by have := HI.out.lo; omega)) hb))
        obtain ⟨A4, c4, hv4, -, -⟩ := own_form hd4.row
        obtain ⟨n4, hn4⟩ : ∃ q, q = M4.length := ⟨_, rfl⟩
        rw [← hn4] at hv4
        subst hv4
        clear hb he hf4 hd4 x0 x1 x2 x3 hn4
        go_wp2_with fail
        go_roundw
        case rel => exact HQ.out.rel (by go_num)
        case measure => simp [intOf]; omega
      · have ht : (((step (files M) o).1 : Int) != 0) = true := by rw [bne_iff_ne]; omega
        have HR := Lib.hid (HI.out.no (by rw [← HM.out]; exact hlt) HOE.out he)
        have hb2 : Below (w.heap.size + 1 + 1) wr w4 := Below.trans (Below.mono HG3.out (by have := HI.out.lo; omega)) hb
        have yc : w4.cell? ⟨w.heap.size + 1, 0, none⟩ = some (.slice none 0 0) := by rw [hb2.cell (p := ⟨w.heap.size + 1, 0, none⟩) (show w.heap.size + 1 < w.heap.size + 1 + 1 by omega)]; exact HI.out.cr
        have yf : w4.frozen? ⟨w.heap.size + 1, 0, none⟩ = false := by rw [hb2.frozen (p := ⟨w.heap.size + 1, 0, none⟩) (show w.heap.size + 1 < w.heap.size + 1 + 1 by omega)]; exact HI.out.fr
        have hlo4 : w.heap.size + 1 < w4.heap.size := Nat.lt_of_lt_of_le HI.out.lo hb2.size
        have HG4 : Hid (Gr w w4) := Lib.hid (Below.trans HI.out.gr (Below.mono hb2 (by omega)))
        have HW := Lib.hid (written_any (.slice Av nv cv) M (w.heap.size + 1 + 1) w4 hd4 HI.out.fit (by have := HI.out.len; omega))
        clear hb he hd4 x0 x1 x2 x3 hb2
        go_wp2_with fail
        refine HW.out.mono ?_
        rintro e w5 ⟨v5, rfl, hf5, g5⟩
        have zc := g5.cell yc
        have zf := g5.frozen hlo4 yf
        have HF5 := Lib.hid hf5
        have HG5 : Hid (Gr w w5) := Lib.hid (HG4.out.trans g5)
        obtain ⟨A5, c5, hv5, -, -⟩ := own_form hf5
        obtain ⟨n5, hn5⟩ : ∃ q, q = (files M).length := ⟨_, rfl⟩
        rw [← hn5] at hv5
        subst hv5
        clear yc yf hf5 g5 hn5
        go_wp2_with fail
        refine bodyPost_ret (v := .tuple #[.agg #[.slice A5 n5 c5], .int .i64 (k : Int), .int .i64 ((step (files M) o).1 : Int)]) (by simp [results, Tryz.results142, go_sem, zc]) rfl ?_
        exact RetDo.mk HR.out HG5.out hlo4 HF5.out rfl _
    · have HR := Lib.hid (HI.out.end_ (by rw [← HM.out]; exact hlt))
      have yc := HI.out.cr
      have yf := HI.out.fr
      have hlo4 := HI.out.lo
      have HG4 := Lib.hid HI.out.gr
      have HW := Lib.hid (written_any (.slice Av nv cv) M (w.heap.size + 1 + 1) wr HI.out.dr HI.out.fit (by have := HI.out.len; omega))
      go_wp2_with fail
      refine HW.out.mono ?_
      rintro e w5 ⟨v5, rfl, hf5, g5⟩
      have zc := g5.cell yc
      have zf := g5.frozen hlo4 yf
      have HF5 := Lib.hid hf5
      have HG5 : Hid (Gr w w5) := Lib.hid (HG4.out.trans g5)
      obtain ⟨A5, c5, hv5, -, -⟩ := own_form hf5
      obtain ⟨n5, hn5⟩ : ∃ q, q = (files M).length := ⟨_, rfl⟩
      rw [← hn5] at hv5
      subst hv5
      clear yc yf hf5 g5 hn5
      go_wp2_with fail
      refine bodyPost_ret (v := .tuple #[.agg #[.slice A5 n5 c5], .int .i64 (m : Int), .int .i64 0]) (by simp [results, Tryz.results142, go_sem, zc]) rfl ?_
      exact RetDo.mk HR.out HG5.out hlo4 HF5.out (by rw [HM.out]; rfl) _
end Go.Proofs.YtlnhbndghnkfmaaGreatDoor
namespace Go.Proofs.YtlnhbndghnkfmaaGreatDoor
open Go.RowKit

/-- A draft lies at this block: the files, Mem, Tables, what was done, in rows of the call's own. -/
structure DRow (w : World) (B bd : Nat) (vF vM vT vD : Value) (L : List F) (M : List CR) (T : List ByteArray) (g m : Nat) (D : List O) : Prop where
  obj : w.heap[bd]? = some (.cells #[vF, vM, vT, .int .i64 (g : Int), .int .i64 (m : Int), vD] 74 (0, 0))
  base : B ≤ bd
  files : FO w B vF L
  mem : CO w B vM M
  tabs : SO w B vT T
  ops : OO w B vD D
theorem DRow.gr {w w' : World} {B bd : Nat} {vF vM vT vD : Value} {L : List F} {M : List CR} {T : List ByteArray} {g m : Nat} {D : List O} (h : DRow w B bd vF vM vT vD L M T g m D) (q : Gr w w') : DRow w' B bd vF vM vT vD L M T g m D :=
  ⟨gr_obj q h.obj, h.base, h.files.gr q, h.mem.gr q, h.tabs.gr q, h.ops.gr q⟩
/-- Nothing that was there has changed, but these blocks. -/
structure KS (S : Nat → Prop) (w w' : World) : Prop where
  os : w'.os = w.os
  tape : w'.tape = w.tape
  output : w'.output = w.output
  size : w.heap.size ≤ w'.heap.size
  block : ∀ k, k < w.heap.size → ¬ S k → w'.heap[k]? = w.heap[k]?
theorem KS.of_gr {S : Nat → Prop} {w w' : World} (h : Gr w w') : KS S w w' := ⟨h.os, h.tape, h.output, h.size, fun k hk _ => h.block k hk⟩
theorem KS.of_kp {S : Nat → Prop} {r : Option Nat} {w w' : World} (h : Kp r w w') (hr : ∀ b, r = some b → S b) : KS S w w' := ⟨h.os, h.tape, h.output, h.size, fun k hk hn => h.block k hk (fun e => hn (hr k e.symm))⟩
theorem KS.trans {S S' : Nat → Prop} {a b c : World} (h : KS S a b) (k : KS S' b c) (hs : ∀ i, i < a.heap.size → S' i → S i) : KS S a c :=
  ⟨k.os.trans h.os, k.tape.trans h.tape, k.output.trans h.output, Nat.le_trans h.size k.size, fun i hi hn => (k.block i (Nat.lt_of_lt_of_le hi h.size) (fun e => hn (hs i hi e))).trans (h.block i hi hn)⟩
theorem KS.mono {S S' : Nat → Prop} {a b : World} (h : KS S a b) (hs : ∀ i, i < a.heap.size → S i → S' i) : KS S' a b := ⟨h.os, h.tape, h.output, h.size, fun i hi hn => h.block i hi (fun e => hn (hs i hi e))⟩
theorem KS.below {S : Nat → Prop} {B : Nat} {w0 w w' : World} (h : KS S w w') (h0 : Below B w0 w) (hB : B ≤ w.heap.size) (hs : ∀ i, S i → B ≤ i) : Below B w0 w' :=
  ⟨h.os.trans h0.os, h.tape.trans h0.tape, h.output.trans h0.output, Nat.le_trans h0.size h.size, fun i hi => (h.block i (by omega) (fun e => by have := hs i e; omega)).trans (h0.block i hi)⟩
theorem own_ks {S : Nat → Prop} {w w' : World} {B size n : Nat} {t : TypeId} {v : Value} {xs : List Value} (h : w.ownsRow B t size v n xs) (k : KS S w w') (hs : ∀ b, v.ownBlock = some b → ¬ S b) : w'.ownsRow B t size v n xs := by
  refine ⟨h.1, ?_⟩
  rcases h.2 with hn | ⟨g, cap, cur, rfl, hb, hg, rest⟩
  · exact .inl hn
  · refine .inr ⟨g, cap, cur, rfl, hb, ?_, rest⟩
    rw [k.block g (Array.getElem?_eq_some_iff.1 hg).1 (hs g rfl)]
    exact hg
/-- A row at v stays where it was, or goes to new memory. -/
def Moves (w : World) (v v' : Value) : Prop := v'.ownBlock = v.ownBlock ∨ ∀ k, v'.ownBlock = some k → w.heap.size ≤ k
section
variable {P : Program} {ops : Array Oper} {o : Oper} {a : Act} {W : World} {K : Act → World → Prop} {Q : Exit → Act → World → Prop} {E : Prop}
/-- append of operations to a row of the call's own, in a region that draws its order. -/
theorem step_push_o (hgd : o.guard = none) (s x : Operand)
    (ho : o.op = .call { callee := .builtin .append, args := #[s, x], argTypes := #[31, 31] })
    (B : Nat) (v vx : Value) (L M : List O) (n m : Nat) (hn : n = L.length) (hm : m = M.length) (hs : a.eval s = v) (hown : OO W B v L) (hx : a.eval x = vx) (hxv : OV W vx M) (hlen : (n + m) * 48 ≤ 140737488355328) (hB : B ≤ W.heap.size) (bd bx : Nat) (n1 : v.ownBlock ≠ some bd) (n2 : v.ownBlock ≠ some bx) (s1 : bd < W.heap.size) (s2 : bx < W.heap.size)
    (h : ∀ A' c' w', OO w' B (.slice A' (n + m) c') (L ++ M) → Kp v.ownBlock W w' → Moves W v (.slice A' (n + m) c') → (∀ i, w'.cell? ⟨bd, i, none⟩ = W.cell? ⟨bd, i, none⟩ ∧ w'.frozen? ⟨bd, i, none⟩ = W.frozen? ⟨bd, i, none⟩) → (∀ i, w'.cell? ⟨bx, i, none⟩ = W.cell? ⟨bx, i, none⟩) → K (a.put o.dst (.slice A' (n + m) c')) w') :
    if Region.wanted o (yielded ops a.tmps) = true then Oper.wp Tryz.prog o a W K Q else E := by
  subst hn hm
  obtain ⟨i0, hi, hz0, hz1, hz2⟩ := info_parts infoOp
  refine step_append_sl W hgd s x 31 ho B 72 i0 _ 4 48 Tryz.underlying31 hi hz0 hz1 hz2 rfl (by decide) v L.length (ocells L) hs hown vx M.length (ocells M) hx
    hxv.sl (ocells_one M) (by unfold maxLen; omega) hlen hB (L.length + M.length) rfl ?_
  intro A' c' w' hown' hgr hat
  refine h A' c' w' ?_ hgr ?_ ?_ ?_
  · unfold OO
    rw [List.length_append]
    unfold ocells at hown' ⊢
    rw [List.flatMap_append]
    exact hown'
  · rcases hat with e | e
    · exact .inl e
    · refine .inr fun k hk => ?_
      rw [e] at hk
      injection hk with hk
      omega
  · intro i
    have : w'.heap[bd]? = W.heap[bd]? := hgr.block bd s1 (fun e => n1 e.symm)
    exact ⟨by unfold World.cell?; rw [this], by unfold World.frozen?; rw [this]⟩
  · intro i
    have : w'.heap[bx]? = W.heap[bx]? := hgr.block bx s2 (fun e => n2 e.symm)
    unfold World.cell?; rw [this]
end
section
variable {w W w4 : World} {B bd : Nat} {vF vF' vM vT vD vD' : Value} {L L' : List F} {M : List CR} {T : List ByteArray} {g m : Nat} {D D' : List O}
/-- What lies at w behind the append and both stores. -/
abbrev DoFin (w : World) (B bd : Nat) (vF' vM vT vD vD' : Value) (L' : List F) (M : List CR) (T : List ByteArray) (g m : Nat) (D' : List O) (X : World) : Prop :=
  DRow X B bd vF' vM vT vD' L' M T g m D' ∧ KS (fun k => k = bd ∨ vD.ownBlock = some k) w X
theorem do_fin (hW : Gr w W) (hD : DRow W B bd vF vM vT vD L M T g m D) (hO : FO W B vF' L') (hown : OO w4 B vD' D') (hk : Kp vD.ownBlock W.drew w4) :
    DoFin w B bd vF' vM vT vD vD' L' M T g m D' ((w4.setCell ⟨bd, 0, none⟩ vF').setCell ⟨bd, 5, none⟩ vD') ∧ DoFin w B bd vF' vM vT vD vD' L' M T g m D' ((w4.setCell ⟨bd, 5, none⟩ vD').setCell ⟨bd, 0, none⟩ vF') := by
  have hd := hD.gr (Gr.refl _).drew
  have n1 := own_ne_obj hd.ops hd.obj (by decide)
  have o4 := kp_obj hk hd.obj n1
  have f4 := own_past (hO.gr (Gr.refl _).drew) hd.ops (by decide) hk
  have m4 := own_past hd.mem hd.ops (by decide) hk
  have t4 := own_past hd.tabs hd.ops (by decide) hk
  have k4 : KS (fun k => k = bd ∨ vD.ownBlock = some k) w w4 := (KS.of_gr (hW.trans (Gr.refl _).drew)).trans (KS.of_kp hk (fun b hb => .inr hb)) (fun _ _ h => h)
  have ks : ∀ (w5 : World) (i : Nat) (u : Value), KS (fun k => k = bd ∨ vD.ownBlock = some k) w w5 → KS (fun k => k = bd ∨ vD.ownBlock = some k) w (w5.setCell ⟨bd, i, none⟩ u) := fun w5 i u h =>
    h.trans (KS.of_kp (S := fun k => k = bd ∨ vD.ownBlock = some k) ((Kp.refl (some bd) w5).set (.inr rfl) i u) (fun b hb => .inl (by injection hb with hb; exact hb.symm))) (fun _ _ h => h)
  refine ⟨⟨⟨?_, hD.base, ?_, ?_, ?_, ?_⟩, ks _ _ _ (ks _ _ _ k4)⟩, ⟨⟨?_, hD.base, ?_, ?_, ?_, ?_⟩, ks _ _ _ (ks _ _ _ k4)⟩⟩
  · exact set_obj (set_obj o4 _) _
  · exact own_box (own_box f4 ⟨_, o4⟩ (by decide) _ _) (BoxAt.set ⟨_, o4⟩ _ _ _) (by decide) _ _
  · exact own_box (own_box m4 ⟨_, o4⟩ (by decide) _ _) (BoxAt.set ⟨_, o4⟩ _ _ _) (by decide) _ _
  · exact own_box (own_box t4 ⟨_, o4⟩ (by decide) _ _) (BoxAt.set ⟨_, o4⟩ _ _ _) (by decide) _ _
  · exact own_box (own_box hown ⟨_, o4⟩ (by decide) _ _) (BoxAt.set ⟨_, o4⟩ _ _ _) (by decide) _ _
  · exact set_obj (set_obj o4 _) _
  · exact own_box (own_box f4 ⟨_, o4⟩ (by decide) _ _) (BoxAt.set ⟨_, o4⟩ _ _ _) (by decide) _ _
  · exact own_box (own_box m4 ⟨_, o4⟩ (by decide) _ _) (BoxAt.set ⟨_, o4⟩ _ _ _) (by decide) _ _
  · exact own_box (own_box t4 ⟨_, o4⟩ (by decide) _ _) (BoxAt.set ⟨_, o4⟩ _ _ _) (by decide) _ _
  · exact own_box (own_box hown ⟨_, o4⟩ (by decide) _ _) (BoxAt.set ⟨_, o4⟩ _ _ _) (by decide) _ _
theorem do_fin2 (hW : Gr w W) (hD : DRow W B bd vF vM vT vD L M T g m D) (hO : FO W B vF' L') (hown : OO w4 B vD' D') (hk : Kp vD.ownBlock (W.drew.setCell ⟨bd, 0, none⟩ vF') w4) :
    DoFin w B bd vF' vM vT vD vD' L' M T g m D' (w4.setCell ⟨bd, 5, none⟩ vD') := by
  have hd := hD.gr (Gr.refl _).drew
  have o3 := set_obj (i := 0) hd.obj vF'
  have p3 := own_set_obj (i := 0) hd.ops hd.obj (by decide) vF'
  have n1 := own_ne_obj p3 o3 (by decide)
  have o4 := kp_obj hk o3 n1
  have f4 := own_past (own_set_obj (i := 0) (hO.gr (Gr.refl _).drew) hd.obj (by decide) vF') p3 (by decide) hk
  have m4 := own_past (own_set_obj (i := 0) hd.mem hd.obj (by decide) vF') p3 (by decide) hk
  have t4 := own_past (own_set_obj (i := 0) hd.tabs hd.obj (by decide) vF') p3 (by decide) hk
  have ks : ∀ (w5 : World) (i : Nat) (u : Value), KS (fun k => k = bd ∨ vD.ownBlock = some k) w w5 → KS (fun k => k = bd ∨ vD.ownBlock = some k) w (w5.setCell ⟨bd, i, none⟩ u) := fun w5 i u h =>
    h.trans (KS.of_kp (S := fun k => k = bd ∨ vD.ownBlock = some k) ((Kp.refl (some bd) w5).set (.inr rfl) i u) (fun b hb => .inl (by injection hb with hb; exact hb.symm))) (fun _ _ h => h)
  have k4 : KS (fun k => k = bd ∨ vD.ownBlock = some k) w w4 := (ks _ 0 vF' (KS.of_gr (hW.trans (Gr.refl _).drew))).trans (KS.of_kp (S := fun k => k = bd ∨ vD.ownBlock = some k) hk (fun b hb => .inr hb)) (fun _ _ h => h)
  refine ⟨⟨?_, hD.base, ?_, ?_, ?_, ?_⟩, ks _ _ _ k4⟩
  · exact set_obj o4 _
  · exact own_box f4 ⟨_, o4⟩ (by decide) _ _
  · exact own_box m4 ⟨_, o4⟩ (by decide) _ _
  · exact own_box t4 ⟨_, o4⟩ (by decide) _ _
  · exact own_box hown ⟨_, o4⟩ (by decide) _ _
end
/-- What a plan that is done leaves of a draft. -/
def RetDoM (B bd : Nat) (vM vT vD : Value) (L : List F) (M : List CR) (T : List ByteArray) (g m : Nat) (D P : List O) (w : World) (e : Ending) (w' : World) : Prop :=
  e = .returned (.int .i64 ((run L P).2.2 : Int)) ∧ ((run L P).2.2 = 0 → ∃ vF' vD', DRow w' B bd vF' vM vT vD' (run L P).1 M T g m (D ++ P) ∧ Moves w vD vD') ∧ KS (fun k => k = bd ∨ vD.ownBlock = some k) w w'
set_option maxRecDepth 100000 in
set_option maxHeartbeats 4000000 in
theorem do_m (B bd : Nat) (vF vM vT vD vP : Value) (L : List F) (M : List CR) (T : List ByteArray) (g m : Nat) (D P : List O) (w : World) (hD : DRow w B bd vF vM vT vD L M T g m D) (Bp : Nat) (hP : OO w Bp vP P) (hf : Fit L) (hfo : ∀ o ∈ P, FitO o) (hlen : L.length * 48 ≤ 140737488355328) (hpl : (D.length + P.length) * 48 ≤ 140737488355328) (hB : B ≤ w.heap.size) :
    Calls Tryz.prog 112 #[.pointer (some ⟨bd, 0, none⟩), vP] w fun e w' => RetDoM B bd vM vT vD L M T g m D P w e w' := by
  obtain ⟨AP, cP, rfl, hp1, hp2⟩ := own_form hP
  obtain ⟨AF, cF, rfl, -, -⟩ := own_form hD.files
  by_cases h0 : P = []
  · subst h0
    have HD := Lib.hid hD
    clear hD hP hf hfo hlen hpl
    go_enter Tryz.func112, Tryz.ntmps112
    go_wp2_with fail
    go_ret
    exact ⟨rfl, fun _ => ⟨_, _, by rw [List.append_nil]; exact HD.out, .inl rfl⟩, KS.of_gr (Gr.refl _)⟩
  have hpz : P.length ≠ 0 := fun e => h0 (List.length_eq_zero_iff.1 e)
  have H1 := Lib.hid (do_any (.slice AF L.length cF) (.slice AP P.length cP) L P w hD.files.fv hP.ov hf hfo hlen)
  unfold RetDo at H1
  obtain ⟨L', hL'⟩ : ∃ x, x = (run L P).1 := ⟨_, rfl⟩
  obtain ⟨er, her⟩ : ∃ x, x = (run L P).2.2 := ⟨_, rfl⟩
  obtain ⟨nd, hnd⟩ : ∃ x, x = (run L P).2.1 := ⟨_, rfl⟩
  unfold RetDoM
  rw [← hL', ← her, ← hnd] at H1
  rw [← hL', ← her]
  clear hL' her hnd hf hfo hlen h0
  obtain ⟨np, hnp⟩ : ∃ n, n = P.length := ⟨_, rfl⟩
  have HNP := Lib.hid hnp
  rw [← hnp] at H1 hP hpz hpl hp1 ⊢
  have t0 : ((np : Int) == 0) = false := by rw [beq_eq_false_iff_ne]; omega
  obtain ⟨AD, cD, rfl, -, -⟩ := own_form hD.ops
  obtain ⟨nD, hnD⟩ : ∃ n, n = D.length := ⟨_, rfl⟩
  have HND := Lib.hid hnD
  rw [← hnD] at hD hpl ⊢
  have HD := Lib.hid hD
  have HP := Lib.hid hP
  have c0 := obj_cell hD.obj (i := 0) rfl
  have hbl : bd < w.heap.size := (Array.getElem?_eq_some_iff.1 hD.obj).1
  clear hD hP hnp hnD
  go_enter Tryz.func112, Tryz.ntmps112
  go_wp2_with fail
  refine H1.out.mono ?_
  rintro e w1 ⟨v1, rfl, ho1, g1⟩
  obtain ⟨A1, k1, rfl, -, -⟩ := own_form ho1
  have HD1 := Lib.hid (HD.out.gr g1)
  have HP1 := Lib.hid (HP.out.gr g1)
  have HO1 := Lib.hid ho1
  have HG1 := Lib.hid g1
  clear g1 c0 ho1
  by_cases he : er = 0
  · subst he
    obtain ⟨W, hW⟩ : ∃ W, W = w1.alloc (.cells #[.slice A1 L'.length k1] 24) := ⟨_, rfl⟩
    obtain ⟨bx, hbx⟩ : ∃ b, b = w1.heap.size := ⟨_, rfl⟩
    have hgW : Gr w1 W := by rw [hW]; exact gr_box _ _
    have hxo : W.heap[bx]? = some (.cells #[.slice A1 L'.length k1] 24 (0, 0)) := by rw [hW, hbx]; exact heap_alloc_new w1 _
    have HGW := Lib.hid (HG1.out.trans hgW)
    have HD2 := Lib.hid (HD1.out.gr hgW)
    have HP2 := Lib.hid (HP1.out.gr hgW)
    have HO2 : Hid (FO W w.heap.size (.slice A1 L'.length k1) L') := Lib.hid (HO1.out.gr hgW)
    have HXO := Lib.hid hxo
    have hdl : bd < W.heap.size := (Array.getElem?_eq_some_iff.1 HD2.out.obj).1
    have hxl : bx < W.heap.size := (Array.getElem?_eq_some_iff.1 hxo).1
    have hne : bd ≠ bx := by rw [hbx]; have := (Array.getElem?_eq_some_iff.1 HD1.out.obj).1; omega
    go_upto_region 6 with (fail)
    rw [← hW, ← hbx]
    clear hW hgW HD1 HP1 HO1 hbx
    have b0 := obj_cell hxo (i := 0) rfl
    have d0 := obj_cell HD2.out.obj (i := 0) rfl
    have d5 := obj_cell HD2.out.obj (i := 5) rfl
    have z0 := obj_free (i := 0) HD2.out.obj
    have z5 := obj_free (i := 5) HD2.out.obj
    have HN1 := Lib.hid (own_ne_obj HD2.out.ops HD2.out.obj (by decide))
    have HN2 := Lib.hid (own_ne_obj HD2.out.ops HXO.out (by decide))
    have HOW : Hid (∀ W', (W' = W.drew ∨ W' = W.drew.setCell ⟨bd, 0, none⟩ (.slice A1 L'.length k1)) → OO W' B (.slice AD nD cD) D ∧ OV W' (.slice AP np cP) P ∧ B ≤ W'.heap.size ∧ bd < W'.heap.size ∧ bx < W'.heap.size) := Lib.hid (by
      have hBW : B ≤ W.heap.size := by have := HGW.out.size; omega
      rintro W' (rfl | rfl)
      · exact ⟨HD2.out.ops.gr (Gr.refl _).drew, (HP2.out.gr (Gr.refl _).drew).ov, hBW, hdl, hxl⟩
      · refine ⟨own_set_obj (HD2.out.ops.gr (Gr.refl _).drew) (gr_obj (Gr.refl _).drew HD2.out.obj) (by decide) _, OO.ov (B := Bp) (own_set_obj (HP2.out.gr (Gr.refl _).drew) (gr_obj (Gr.refl _).drew HD2.out.obj) (by decide) _), ?_, ?_, ?_⟩
        · simpa [World.setCell] using hBW
        · simpa [World.setCell] using hdl
        · simpa [World.setCell] using hxl)
    go_region_law
      (refine step_push_o rfl (.tmp 31) (.tmp 32) rfl B (.slice AD nD cD) (.slice AP np cP) D P nD np HND.out HNP.out rfl (HOW.out _ (by first | exact .inl rfl | exact .inr rfl)).1 rfl (HOW.out _ (by first | exact .inl rfl | exact .inr rfl)).2.1 hpl (HOW.out _ (by first | exact .inl rfl | exact .inr rfl)).2.2.1 bd bx HN1.out HN2.out (HOW.out _ (by first | exact .inl rfl | exact .inr rfl)).2.2.2.1 (HOW.out _ (by first | exact .inl rfl | exact .inr rfl)).2.2.2.2 ?_
       intro A4 c4 w4 hown4 hgr4 hmv4 hb4 hx4)
    all_goals
      have HO4 := Lib.hid hown4
      have HMV : Hid (Moves w (.slice AD nD cD) (.slice A4 (nD + np) c4)) := Lib.hid (hmv4.imp id (fun h k hk => by
        have := h k hk
        have := HGW.out.size
        have e : W.drew.heap.size = W.heap.size := rfl
        first | omega | (simp [World.setCell] at *; omega)))
      have HF := Lib.hid (by first | exact do_fin HGW.out HD2.out (HO2.out.le hB) HO4.out hgr4 | exact ⟨do_fin2 HGW.out HD2.out (HO2.out.le hB) HO4.out hgr4, trivial⟩ : _ ∧ _)
      clear hown4 hgr4 hmv4 hb4 hx4
      go_wp2
      go_ret
      first
        | exact ⟨rfl, ⟨_, _, HF.out.1.1, HMV.out⟩, HF.out.1.2⟩
        | exact ⟨rfl, ⟨_, _, HF.out.2.1, HMV.out⟩, HF.out.2.2⟩
        | exact ⟨rfl, fun _ => ⟨_, _, HF.out.1.1, HMV.out⟩, HF.out.1.2⟩
        | exact ⟨rfl, fun _ => ⟨_, _, HF.out.2.1, HMV.out⟩, HF.out.2.2⟩
  · have t1 : ((er : Int) == 0) = false := by rw [beq_eq_false_iff_ne]; omega
    have hek : er ≠ 0 := he
    go_wp2_with fail
    go_ret
    exact ⟨rfl, fun h => absurd h hek, KS.of_gr (HG1.out.trans (gr_box _ _))⟩
end Go.Proofs.YtlnhbndghnkfmaaGreatDoor
