/- Walks: the document's Same of one state, twice in memory. Walk: next of stage 11's laws. -/
import Derived.Test.YtlihcjlonafohaaGreatZf47
import Derived.Test.YtlihcjlonafohaaGreatZf17
namespace Go.Proofs.YtlihcjlonafohaaGreat
open Go.RowKit Go.Joins
set_option linter.unusedSimpArgs false
set_option linter.unusedVariables false

theorem fieldsTg : ∃ f0 f1 f2 f3 : Field, Tryz.prog.fieldsOf 37 = #[f0, f1, f2, f3] ∧ (f0.name ≠ "_" ∧ f1.name ≠ "_" ∧ f2.name ≠ "_" ∧ f3.name ≠ "_") ∧ (f0.type = 3 ∧ f1.type = 3 ∧ f2.type = 25 ∧ f3.type = 9) ∧ f0.offset = 0 ∧ f1.offset = 1 ∧ f2.offset = 2 ∧ f3.offset = 3 := by
  refine ⟨(Tryz.prog.fieldsOf 37)[0]'(by decide +kernel), (Tryz.prog.fieldsOf 37)[1]'(by decide +kernel), (Tryz.prog.fieldsOf 37)[2]'(by decide +kernel), (Tryz.prog.fieldsOf 37)[3]'(by decide +kernel), by kernel_rfl, ⟨by decide +kernel, by decide +kernel, by decide +kernel, by decide +kernel⟩, ⟨by kernel_rfl, by kernel_rfl, by kernel_rfl, by kernel_rfl⟩, by kernel_rfl, by kernel_rfl, by kernel_rfl, by kernel_rfl⟩
theorem part_tg (x : TG) (w : World) : (part 3 (tgv x) 0).run Tryz.prog w = .ok (.int .i64 x.o) w ∧ (part 3 (tgv x) 1).run Tryz.prog w = .ok (.int .i64 x.i) w ∧ (part 25 (tgv x) 2).run Tryz.prog w = .ok (.int .u64 (x.s : Int)) w ∧ (part 9 (tgv x) 3).run Tryz.prog w = .ok (.string x.e) w := by
  refine ⟨?_, ?_, ?_, ?_⟩ <;> (show _ = _; kernel_rfl)
theorem equal_tg (x : TG) (w : World) : (Op.equalIn 10000 37 (.agg (tgv x)) (.agg (tgv x))).run Tryz.prog w = .ok true w := by
  obtain ⟨f0, f1, f2, f3, hf, ⟨n0, n1, n2, n3⟩, ⟨t0, t1, t2, t3⟩, o0, o1, o2, o3⟩ := fieldsTg
  obtain ⟨p0, p1, p2, p3⟩ := part_tg x w
  rw [run_equalIn_struct w 9999 _ _ _ (by kernel_rfl) (by kernel_rfl), hf]
  simp only [Op.eqFields, n0, n1, n2, n3, t0, t1, t2, t3, o0, o1, o2, o3, if_true, ne_eq, not_false_eq_true, Sem.run_bind, p0, p1, p2, p3, Result.andThen_ok, run_equalIn_string w 9998 9 _ _ Tryz.underlying9, run_equalIn_int w 9998 3 _ _ _ _ Tryz.underlying3, run_equalIn_int w 9998 25 _ _ _ _ Tryz.underlying25, Sem.run_ite, Sem.run_pure]
  simp
/-- The two boxes of Same. -/
structure SmB (w0 : World) (P Q : Nat) (k m : Int) (Aa Ba Ab Bb : Option Addr) (n1 n2 ca da cb db : Nat) (has : Bool) (st : Nat) (top : TG) (df : Bool) (w : World) : Prop where
  a2 : w.cell? ⟨P, 2, none⟩ = some (.slice Aa n1 ca)
  a3 : w.cell? ⟨P, 3, none⟩ = some (.slice Ab n2 cb)
  b2 : w.cell? ⟨Q, 2, none⟩ = some (.slice Ba n1 da)
  b3 : w.cell? ⟨Q, 3, none⟩ = some (.slice Bb n2 db)
  gr : Gr w0 w
theorem SmB.next {w0 w w' : World} {P Q : Nat} {k m : Int} {Aa Ba Ab Bb : Option Addr} {n1 n2 ca da cb db : Nat} {has : Bool} {st : Nat} {top : TG} {df : Bool} (h : SmB w0 P Q k m Aa Ba Ab Bb n1 n2 ca da cb db has st top df w) (g : Gr w w') : SmB w0 P Q k m Aa Ba Ab Bb n1 n2 ca da cb db has st top df w' :=
  ⟨g.cell h.a2, g.cell h.a3, g.cell h.b2, g.cell h.b3, h.gr.trans g⟩
set_option maxRecDepth 100000 in
set_option maxHeartbeats 8000000 in
theorem sameF_any (k m : Int) (ve vl ve' vl' : Value) (E : List ByteArray) (L : List TG) (has : Bool) (st : Nat) (top : TG) (df : Bool) (w : World) (h1 : SV w ve E) (h2 : GV w vl L) (h3 : SV w ve' E) (h4 : GV w vl' L) (hl1 : E.length ≤ 1000000) (hl2 : L.length ≤ 1000000) :
    Calls Tryz.prog 18 #[.agg (fsc k m ve vl has st top df), .agg (fsc k m ve' vl' has st top df)] w fun e w' => e = .returned (.bool true) ∧ Gr w w' := by
  obtain ⟨Aa, ca, rfl, -, ⟨-, -⟩, ha⟩ := h1
  obtain ⟨Ab, cb, rfl, -, ⟨-, -⟩, hb⟩ := h2
  obtain ⟨Ba, da, rfl, -, ⟨-, -⟩, ha'⟩ := h3
  obtain ⟨Bb, db, rfl, -, ⟨-, -⟩, hb'⟩ := h4
  obtain ⟨n1, hn1⟩ : ∃ n, n = E.length := ⟨_, rfl⟩
  obtain ⟨n2, hn2⟩ : ∃ n, n = L.length := ⟨_, rfl⟩
  rw [← hn1, ← hn2]
  have HN1 := Lib.hid hn1
  have HN2 := Lib.hid hn2
  obtain ⟨W1, hW1, hg1, hs1⟩ : ∃ W, W = w.alloc (.cells (fsc k m (.slice Aa n1 ca) (.slice Ab n2 cb) has st top df) 39) ∧ Gr w W ∧ W.heap[w.heap.size]? = some (.cells (fsc k m (.slice Aa n1 ca) (.slice Ab n2 cb) has st top df) 39 (0, 0)) := ⟨_, rfl, (Gr.refl _).alloc _, heap_alloc _ _ _⟩
  obtain ⟨W, hW, hg2, hs2⟩ : ∃ W, W = W1.alloc (.cells (fsc k m (.slice Ba n1 da) (.slice Bb n2 db) has st top df) 39) ∧ Gr W1 W ∧ W.heap[W1.heap.size]? = some (.cells (fsc k m (.slice Ba n1 da) (.slice Bb n2 db) has st top df) 39 (0, 0)) := ⟨_, rfl, (Gr.refl _).alloc _, heap_alloc _ _ _⟩
  have e1 : W1.heap.size = w.heap.size + 1 := by rw [hW1]; simp
  obtain ⟨P, hP⟩ : ∃ S, S = w.heap.size := ⟨_, rfl⟩
  obtain ⟨Q, hQ⟩ : ∃ S, S = w.heap.size + 1 := ⟨_, rfl⟩
  rw [← hP] at hs1
  rw [e1, ← hQ] at hs2
  have hs1 := gr_obj hg2 hs1
  have hgw := hg1.trans hg2
  have HE : Hid (∀ j (hj : j < E.length), (∃ b off, Aa = some ⟨b, off, none⟩ ∧ w.cell? ⟨b, off + j, none⟩ = some (.string E[j])) ∧ ∃ b off, Ba = some ⟨b, off, none⟩ ∧ w.cell? ⟨b, off + j, none⟩ = some (.string E[j])) := Lib.hid fun j hj => ⟨ha j hj, ha' j hj⟩
  have HL : Hid (∀ j (hj : j < L.length), (∃ b off, Ab = some ⟨b, off, none⟩ ∧ TGc w b (off + j * 4) L[j]) ∧ ∃ b off, Bb = some ⟨b, off, none⟩ ∧ TGc w b (off + j * 4) L[j]) := Lib.hid fun j hj => ⟨hb j hj, hb' j hj⟩
  have HSM : Hid (SmB w P Q k m Aa Ba Ab Bb n1 n2 ca da cb db has st top df W) := Lib.hid (by
    refine ⟨?_, ?_, ?_, ?_, hgw⟩
    · rw [cell_of_block hs1]; rfl
    · rw [cell_of_block hs1]; rfl
    · rw [cell_of_block hs2]; rfl
    · rw [cell_of_block hs2]; rfl)
  have a0 : W.cell? ⟨P, 0, none⟩ = some (.int .i64 k) := by rw [cell_of_block hs1]; rfl
  have a1 : W.cell? ⟨P, 1, none⟩ = some (.int .i64 m) := by rw [cell_of_block hs1]; rfl
  have a2 := HSM.out.a2
  have a3 := HSM.out.a3
  have a4 : W.cell? ⟨P, 4, none⟩ = some (.bool has) := by rw [cell_of_block hs1]; rfl
  have a5 : W.cell? ⟨P, 5, none⟩ = some (.int .u64 (st : Int)) := by rw [cell_of_block hs1]; rfl
  have a6 : W.cell? ⟨P, 6, none⟩ = some (.int .i64 top.o) := by rw [cell_of_block hs1]; rfl
  have a7 : W.cell? ⟨P, 7, none⟩ = some (.int .i64 top.i) := by rw [cell_of_block hs1]; rfl
  have a8 : W.cell? ⟨P, 8, none⟩ = some (.int .u64 (top.s : Int)) := by rw [cell_of_block hs1]; rfl
  have a9 : W.cell? ⟨P, 9, none⟩ = some (.string top.e) := by rw [cell_of_block hs1]; rfl
  have a10 : W.cell? ⟨P, 10, none⟩ = some (.bool df) := by rw [cell_of_block hs1]; rfl
  have b0 : W.cell? ⟨Q, 0, none⟩ = some (.int .i64 k) := by rw [cell_of_block hs2]; rfl
  have b1 : W.cell? ⟨Q, 1, none⟩ = some (.int .i64 m) := by rw [cell_of_block hs2]; rfl
  have b2 := HSM.out.b2
  have b3 := HSM.out.b3
  have b4 : W.cell? ⟨Q, 4, none⟩ = some (.bool has) := by rw [cell_of_block hs2]; rfl
  have b5 : W.cell? ⟨Q, 5, none⟩ = some (.int .u64 (st : Int)) := by rw [cell_of_block hs2]; rfl
  have b6 : W.cell? ⟨Q, 6, none⟩ = some (.int .i64 top.o) := by rw [cell_of_block hs2]; rfl
  have b7 : W.cell? ⟨Q, 7, none⟩ = some (.int .i64 top.i) := by rw [cell_of_block hs2]; rfl
  have b8 : W.cell? ⟨Q, 8, none⟩ = some (.int .u64 (top.s : Int)) := by rw [cell_of_block hs2]; rfl
  have b9 : W.cell? ⟨Q, 9, none⟩ = some (.string top.e) := by rw [cell_of_block hs2]; rfl
  have b10 : W.cell? ⟨Q, 10, none⟩ = some (.bool df) := by rw [cell_of_block hs2]; rfl
  have he := equal_tg top
  have f1 : (has != has) = false := by simp
  have f2 : (df != df) = false := by simp
  rw [hW1] at hW
  clear ha hb ha' hb' hn1 hn2 hg1 hg2 hs1 hs2 e1 hW1 hgw
  go_enter Tryz.func18, Tryz.ntmps18
  go_upto_region 1 with (fail)
  change Code.wp Tryz.prog _ _ _ ((w.alloc (.cells (fsc k m (.slice Aa n1 ca) (.slice Ab n2 cb) has st top df) 39)).alloc (.cells (fsc k m (.slice Ba n1 da) (.slice Bb n2 db) has st top df) 39))
  rw [← hW, ← hQ, ← hP]
  clear hW hQ hP
  go_wp2_with fail
  clear a0 a1 a2 a3 a4 a5 a6 a7 a8 a9 a10 b0 b1 b2 b3 b4 b5 b6 b7 b8 b9 b10 he f1 f2
  go_loopw [5] (fun i wr => ∃ j : Nat, j ≤ n1 ∧ i = .int .i64 j ∧ Hid (SmB w P Q k m Aa Ba Ab Bb n1 n2 ca da cb db has st top df wr)) (fun i _ => n1 - (intOf i).toNat)
  case atStart => exact ⟨0, Nat.zero_le _, rfl, Lib.hid HSM.out⟩
  case round =>
    obtain ⟨j, hj, rfl, hst⟩ := hrel
    rename World => wr
    have HST := Lib.hid hst.out
    clear hst
    by_cases hjn : j < n1
    · have hj0 : (0 : Int) ≤ (j : Int) := Int.natCast_nonneg _
      have hjn1 : (j : Int) < (n1 : Int) := by omega
      have hjl : j < E.length := by rw [← HN1.out]; exact hjn
      obtain ⟨⟨b, off, rfl, q0⟩, b', off', rfl, q1⟩ := HE.out j hjl
      obtain ⟨x, hx⟩ : ∃ x, x = E[j] := ⟨_, rfl⟩
      rw [← hx] at q0 q1
      have HQ := Lib.hid (And.intro (HST.out.gr.cell q0) (HST.out.gr.cell q1))
      have s1 : (x.toList != x.toList) = false := by simp
      have p2 := HST.out.a2
      clear q0 q1 hx
      go_upto_region 6 with (fail)
      clear p2
      refine qRegion (fun w' => w'.cell? ⟨b, off + j, none⟩ = some (.string x) ∧ w'.cell? ⟨b', off' + j, none⟩ = some (.string x) ∧ w'.cell? ⟨P, 2, none⟩ = some (.slice (some ⟨b, off, none⟩) n1 ca) ∧ w'.cell? ⟨Q, 2, none⟩ = some (.slice (some ⟨b', off', none⟩) n1 da) ∧ Gr wr w') (by kernel_rfl) (by kernel_rfl) ⟨(Gr.refl _).drew.cell HQ.out.1, (Gr.refl _).drew.cell HQ.out.2, (Gr.refl _).drew.cell HST.out.a2, (Gr.refl _).drew.cell HST.out.b2, (Gr.refl _).drew⟩ ?_
      iterate 11
        refine qTake (by kernel_rfl) ?_
        apply Exists.intro
        refine ⟨fun wq hq => ?_, ?_⟩
        · go_light
          obtain ⟨e0, e1, e2, e3, -⟩ := hq
          go_simp
          try with_reducible rfl
          done
        try simp only [Act.put, List.setIfInBounds_toArray, List.set_cons_zero, List.set_cons_succ]
      refine qNil ?_
      intro w3 hC
      have HG3 := Lib.hid (HST.out.next hC.2.2.2.2)
      clear hC s1
      have hwj : wrap64 ((j : Int) + 1) = ((j + 1 : Nat) : Int) := by unfold wrap64; have := HN1.out; omega
      go_wp2_with fail
      go_roundw
      case rel => exact ⟨j + 1, by omega, (by first | rfl | rw [hwj]), Lib.hid HG3.out⟩
      case measure => first | (simp [intOf]; omega) | (rw [hwj]; simp [intOf]; omega)
    · obtain rfl : j = n1 := by omega
      have p2 := HST.out.a2
      go_wp2_with fail
      clear p2
      go_loopw [6] (fun i wr => ∃ q : Nat, q ≤ n2 ∧ i = .int .i64 q ∧ Hid (SmB w P Q k m Aa Ba Ab Bb j n2 ca da cb db has st top df wr)) (fun i _ => n2 - (intOf i).toNat)
      case atStart => exact ⟨0, Nat.zero_le _, rfl, Lib.hid HST.out⟩
      case round =>
        obtain ⟨q, hq, rfl, hsu⟩ := hrel
        rename World => wq
        have HSU := Lib.hid hsu.out
        clear hsu
        have p3 := HSU.out.a3
        by_cases hqn : q < n2
        · have hj0 : (0 : Int) ≤ (q : Int) := Int.natCast_nonneg _
          have hjn1 : (q : Int) < (n2 : Int) := by omega
          have hjl : q < L.length := by rw [← HN2.out]; exact hqn
          obtain ⟨⟨b, off, rfl, q0⟩, b', off', rfl, q1⟩ := HL.out q hjl
          obtain ⟨x, hx⟩ : ∃ x, x = L[q] := ⟨_, rfl⟩
          rw [← hx] at q0 q1
          have HQ := Lib.hid (And.intro (q0.gr HSU.out.gr) (q1.gr HSU.out.gr))
          have he := equal_tg x
          clear q0 q1 hx
          go_upto_region 11 with (fail)
          clear p3
          refine qRegion (fun w' => TGc w' b (off + q * 4) x ∧ TGc w' b' (off' + q * 4) x ∧ w'.cell? ⟨P, 3, none⟩ = some (.slice (some ⟨b, off, none⟩) n2 cb) ∧ w'.cell? ⟨Q, 3, none⟩ = some (.slice (some ⟨b', off', none⟩) n2 db) ∧ Gr wq w') (by kernel_rfl) (by kernel_rfl) ⟨HQ.out.1.gr (Gr.refl _).drew, HQ.out.2.gr (Gr.refl _).drew, (Gr.refl _).drew.cell HSU.out.a3, (Gr.refl _).drew.cell HSU.out.b3, (Gr.refl _).drew⟩ ?_
          iterate 11
            refine qTake (by kernel_rfl) ?_
            apply Exists.intro
            refine ⟨fun wq hq => ?_, ?_⟩
            · go_light
              obtain ⟨⟨x0, x1, x2, x3⟩, ⟨y0, y1, y2, y3⟩, e2, e3, -⟩ := hq
              go_simp
              try with_reducible rfl
              done
            try simp only [Act.put, List.setIfInBounds_toArray, List.set_cons_zero, List.set_cons_succ]
          refine qNil ?_
          intro w3 hC
          have HG3 := Lib.hid (HSU.out.next hC.2.2.2.2)
          clear hC he
          have hwj : wrap64 ((q : Int) + 1) = ((q + 1 : Nat) : Int) := by unfold wrap64; have := HN2.out; omega
          go_wp2_with fail
          go_roundw
          case rel => exact ⟨q + 1, by omega, (by first | rfl | rw [hwj]), Lib.hid HG3.out⟩
          case measure => first | (simp [intOf]; omega) | (rw [hwj]; simp [intOf]; omega)
        · obtain rfl : q = n2 := by omega
          go_wp2_with fail
          go_ret
          exact ⟨rfl, HSU.out.gr⟩
end Go.Proofs.YtlihcjlonafohaaGreat
namespace Go.Proofs.YtlihcjlonafohaaGreat
open Go.RowKit Go.Joins
set_option linter.unusedSimpArgs false
set_option linter.unusedVariables false

/-- Can it come next? -/
def pickB (d : Nat → Nat) (t : TX) : Bool := !hasB d t.origin t.seq && leqB t.deps d
/-- What next's region reads. -/
structure NxR (w0 : World) (Q b o : Nat) (d : Nat → Nat) (t : TX) (v : Value) (w : World) : Prop where
  q : VC w Q d
  x : XFix w b o t v
  gr : Gr w0 w
theorem NxR.next {w0 w w' : World} {Q b o : Nat} {d : Nat → Nat} {t : TX} {v : Value} (h : NxR w0 Q b o d t v w) (g : Gr w w') : NxR w0 Q b o d t v w' := ⟨h.q.gr g, h.x.gr g, h.gr.trans g⟩
set_option maxRecDepth 100000 in
set_option maxHeartbeats 8000000 in
theorem next_any (v : Value) (O : List TX) (d : Nat → Nat) (a : Nat) (ha : a ≤ 255) (w : World) (h : XV w v O) (hN : O.length ≤ 60) (hex : ∃ (k : Nat) (hk : k < O.length), pickB d O[k] = true) :
    Calls Tryz.prog 15 #[v, .agg (vcells d), .int .i64 (a : Int)] w fun e w' => ∃ k t, e = .returned (.tuple #[.int .i64 ((k : Nat) : Int), .bool true]) ∧ O[k]? = some t ∧ pickB d t = true ∧ Gr w w' := by
  obtain ⟨A, c, hv, -, ⟨hcm, -⟩, hat⟩ := h
  subst hv
  obtain ⟨N, hNe⟩ : ∃ N, N = O.length := ⟨_, rfl⟩
  rw [← hNe] at hN ⊢
  have HN := Lib.hid hNe
  have HAT := Lib.hid hat
  have HEX := Lib.hid hex
  obtain ⟨W, hW, hg, hq⟩ : ∃ W, W = w.alloc (.cells (vcells d) 27) ∧ Gr w W ∧ W.heap[w.heap.size]? = some (.cells (vcells d) 27 (0, 0)) := ⟨_, rfl, (Gr.refl _).alloc _, heap_alloc _ _ _⟩
  obtain ⟨Q, hQ⟩ : ∃ Q, Q = w.heap.size := ⟨_, rfl⟩
  rw [← hQ] at hq
  have HVB : Hid (VBox W Q d) := Lib.hid ⟨hq⟩
  have HG := Lib.hid hg
  have hN0 : 0 < N := by obtain ⟨k, hk, -⟩ := hex; omega
  clear hNe hat hex hg hq hcm
  go_enter Tryz.func15, Tryz.ntmps15
  go_upto_region 1 with (fail)
  change Code.wp Tryz.prog _ _ _ (w.alloc (.cells (vcells d) 27))
  rw [← hW, ← hQ]
  clear hW hQ
  go_wp2_with fail
  go_loopw [8] (fun i wr => ∃ j : Nat, j ≤ N ∧ i = .int .i64 j ∧ Hid (VBox wr Q d ∧ Gr w wr ∧ ∀ j', j' < j → ∀ (hk : (a + j') % N < O.length), pickB d (O[(a + j') % N]'hk) = false)) (fun i _ => N - (intOf i).toNat)
  case atStart => exact ⟨0, Nat.zero_le _, rfl, Lib.hid ⟨HVB.out, HG.out, fun j' h => absurd h (Nat.not_lt_zero _)⟩⟩
  case round =>
    obtain ⟨j, hj, rfl, hst⟩ := hrel
    rename World => wr
    have HST := Lib.hid hst.out
    clear hst
    by_cases hjn : j < N
    case neg =>
      exfalso
      obtain ⟨k, hk, hp⟩ := HEX.out
      have hkN : k < N := by rw [HN.out]; exact hk
      have hj2 : j = N := by omega
      have hmod : (a + (k + N - a % N) % N) % N = k := by
        have h1 : a % N < N := Nat.mod_lt _ hN0
        rw [Nat.add_mod, Nat.mod_mod]
        by_cases hc : a % N ≤ k
        · have e : k + N - a % N = (k - a % N) + N := by omega
          rw [e, Nat.add_mod_right, Nat.mod_eq_of_lt (show k - a % N < N by omega)]
          have e2 : a % N + (k - a % N) = k := by omega
          rw [e2, Nat.mod_eq_of_lt hkN]
        · have e : (k + N - a % N) % N = k + N - a % N := Nat.mod_eq_of_lt (by omega)
          rw [e]
          have e2 : a % N + (k + N - a % N) = k + N := by omega
          rw [e2, Nat.add_mod_right, Nat.mod_eq_of_lt hkN]
      have := HST.out.2.2 ((k + N - a % N) % N) (by rw [hj2]; exact Nat.mod_lt _ hN0) (by rw [hmod]; exact hk)
      simp only [hmod] at this
      rw [hp] at this
      cases this
    obtain ⟨r, hr⟩ : ∃ r, r = (a + j) % N := ⟨_, rfl⟩
    have hrN : r < N := by rw [hr]; exact Nat.mod_lt _ hN0
    have hrl : r < O.length := by rw [← HN.out]; exact hrN
    obtain ⟨b, off, rfl, vt, htv, hxf⟩ := HAT.out r hrl
    obtain ⟨t, ht⟩ : ∃ t, t = O[r] := ⟨_, rfl⟩
    rw [← ht] at htv hxf
    have HOT : Hid (O[r]? = some t) := Lib.hid (by rw [ht]; exact List.getElem?_eq_getElem hrl)
    have HNX : Hid (NxR wr Q b (off + r * 12) d t vt wr) := Lib.hid ⟨HST.out.1.vc, hxf.gr HST.out.2.1, Gr.refl _⟩
    have HR := Lib.hid hr
    have m1 : ((a : Int) + (j : Int)).tmod (N : Int) = (r : Int) := by
      rw [Int.tmod_eq_emod_of_nonneg (by omega), hr]
      rw [← Int.natCast_add, ← Int.natCast_emod]
    have m2 : ¬ (N : Int) = 0 := by omega
    have m3 : ((N : Int) == 0) = false := beq_eq_false_iff_ne.2 m2
    have m4 : wrap64 ((a : Int) + (j : Int)) = (a : Int) + (j : Int) := by unfold wrap64; omega
    have m5 : IntKind.i64.wrap ((a : Int) + (j : Int)) = (a : Int) + (j : Int) := IntWalk.i64_in _ ⟨by omega, by omega⟩
    have m6 : wrap64 (r : Int) = (r : Int) := by unfold wrap64; omega
    have m7 : IntKind.i64.wrap (r : Int) = (r : Int) := IntWalk.i64_in _ ⟨by omega, by omega⟩
    have r0 : (0 : Int) ≤ (r : Int) := Int.natCast_nonneg _
    have r1 : (r : Int) < (N : Int) := by omega
    have j1 : (j : Int) < (N : Int) := by omega
    have CH := Lib.hid (fun w1 => rhas_any d t.origin t.seq w1)
    have CL := Lib.hid (fun w1 => rleq_any t.deps d w1)
    obtain ⟨hb, hhb⟩ : ∃ x, x = hasB d t.origin t.seq := ⟨_, rfl⟩
    obtain ⟨lb, hlb⟩ : ∃ x, x = leqB t.deps d := ⟨_, rfl⟩
    have HPB : Hid (pickB d t = (!hb && lb)) := Lib.hid (by rw [hhb, hlb]; rfl)
    rw [← hhb] at CH
    rw [← hlb] at CL
    clear ht htv hxf hrl hr hhb hlb
    have hwj : wrap64 ((j : Int) + 1) = ((j + 1 : Nat) : Int) := by unfold wrap64; omega
    have NO : Hid (pickB d t = false → ∀ j', j' < j + 1 → ∀ (hk : (a + j') % N < O.length), pickB d (O[(a + j') % N]'hk) = false) := Lib.hid (fun hf j' hj' hk => by
      by_cases e : j' = j
      · subst e
        have h1 := HOT.out
        rw [HR.out, List.getElem?_eq_getElem hk] at h1
        rw [Option.some.inj h1]
        exact hf
      · exact HST.out.2.2 j' (by omega) hk)
    cases hb with
    | true =>
      have HF : Hid (pickB d t = false) := Lib.hid (by rw [HPB.out]; rfl)
      go_upto_region 5 with (fail)
      refine qRegion (fun w' => NxR wr Q b (off + r * 12) d t vt w') (by kernel_rfl) (by kernel_rfl) (HNX.out.next (Gr.refl _).drew) ?_
      iterate 11
        refine qTake (by kernel_rfl) ?_
        apply Exists.intro
        refine ⟨fun wq hq => ?_, ?_⟩
        · go_light
          obtain ⟨⟨q0, q1, q2, q3, q4, q5, q6, q7⟩, ⟨x0, x1, x2, x3, x4, x5, x6, x7, x8, x9, x10, x11⟩, -⟩ := hq
          go_simp
          try with_reducible rfl
          done
        try simp only [Act.put, List.setIfInBounds_toArray, List.set_cons_zero, List.set_cons_succ]
      refine qCall (by kernel_rfl) ?_
      apply Exists.intro
      refine ⟨?_, ?_⟩
      · apply Exists.intro
        apply Exists.intro
        refine ⟨fun wq => ?_, fun wq hq => ?_⟩
        · go_light
          go_simp
          exact ⟨rfl, rfl⟩
        · exact (CH.out wq).mono fun e w'' ⟨he, hg⟩ => ⟨he, hq.next hg⟩
      try simp only [Act.put, List.setIfInBounds_toArray, List.set_cons_zero, List.set_cons_succ]
      iterate 2
        refine qTake (by kernel_rfl) ?_
        apply Exists.intro
        refine ⟨fun wq hq => ?_, ?_⟩
        · go_light
          obtain ⟨⟨q0, q1, q2, q3, q4, q5, q6, q7⟩, ⟨x0, x1, x2, x3, x4, x5, x6, x7, x8, x9, x10, x11⟩, -⟩ := hq
          go_simp
          try with_reducible rfl
          done
        try simp only [Act.put, List.setIfInBounds_toArray, List.set_cons_zero, List.set_cons_succ]
      iterate 7
        refine qSkip (by kernel_rfl) ?_
        try simp only [Act.put, List.setIfInBounds_toArray, List.set_cons_zero, List.set_cons_succ]
      iterate 1
        refine qTake (by kernel_rfl) ?_
        apply Exists.intro
        refine ⟨fun wq hq => ?_, ?_⟩
        · go_light
          obtain ⟨⟨q0, q1, q2, q3, q4, q5, q6, q7⟩, ⟨x0, x1, x2, x3, x4, x5, x6, x7, x8, x9, x10, x11⟩, -⟩ := hq
          go_simp
          try with_reducible rfl
          done
        try simp only [Act.put, List.setIfInBounds_toArray, List.set_cons_zero, List.set_cons_succ]
      refine qNil ?_
      intro w3 hC
      have HG3 := Lib.hid hC.gr
      clear hC m1 m2 m3 m4 m5 m6 m7
      go_wp2_with fail
      go_roundw
      case rel => exact ⟨j + 1, by omega, (by first | rfl | rw [hwj]), Lib.hid ⟨HST.out.1.gr HG3.out, HST.out.2.1.trans HG3.out, NO.out HF.out⟩⟩
      case measure => first | (simp [intOf]; omega) | (rw [hwj]; simp [intOf]; omega)
    | false =>
      cases lb with
      | false =>
        have HF : Hid (pickB d t = false) := Lib.hid (by rw [HPB.out]; rfl)
        go_upto_region 5 with (fail)
        refine qRegion (fun w' => NxR wr Q b (off + r * 12) d t vt w') (by kernel_rfl) (by kernel_rfl) (HNX.out.next (Gr.refl _).drew) ?_
        iterate 11
          refine qTake (by kernel_rfl) ?_
          apply Exists.intro
          refine ⟨fun wq hq => ?_, ?_⟩
          · go_light
            obtain ⟨⟨q0, q1, q2, q3, q4, q5, q6, q7⟩, ⟨x0, x1, x2, x3, x4, x5, x6, x7, x8, x9, x10, x11⟩, -⟩ := hq
            go_simp
            try with_reducible rfl
            done
          try simp only [Act.put, List.setIfInBounds_toArray, List.set_cons_zero, List.set_cons_succ]
        refine qCall (by kernel_rfl) ?_
        apply Exists.intro
        refine ⟨?_, ?_⟩
        · apply Exists.intro
          apply Exists.intro
          refine ⟨fun wq => ?_, fun wq hq => ?_⟩
          · go_light
            go_simp
            exact ⟨rfl, rfl⟩
          · exact (CH.out wq).mono fun e w'' ⟨he, hg⟩ => ⟨he, hq.next hg⟩
        try simp only [Act.put, List.setIfInBounds_toArray, List.set_cons_zero, List.set_cons_succ]
        iterate 8
          refine qTake (by kernel_rfl) ?_
          apply Exists.intro
          refine ⟨fun wq hq => ?_, ?_⟩
          · go_light
            obtain ⟨⟨q0, q1, q2, q3, q4, q5, q6, q7⟩, ⟨x0, x1, x2, x3, x4, x5, x6, x7, x8, x9, x10, x11⟩, -⟩ := hq
            go_simp
            try with_reducible rfl
            done
          try simp only [Act.put, List.setIfInBounds_toArray, List.set_cons_zero, List.set_cons_succ]
        refine qCall (by kernel_rfl) ?_
        apply Exists.intro
        refine ⟨?_, ?_⟩
        · apply Exists.intro
          apply Exists.intro
          refine ⟨fun wq => ?_, fun wq hq => ?_⟩
          · go_light
            go_simp
            exact ⟨rfl, rfl⟩
          · exact (CL.out wq).mono fun e w'' ⟨he, hg⟩ => ⟨he, hq.next hg⟩
        try simp only [Act.put, List.setIfInBounds_toArray, List.set_cons_zero, List.set_cons_succ]
        iterate 1
          refine qTake (by kernel_rfl) ?_
          apply Exists.intro
          refine ⟨fun wq hq => ?_, ?_⟩
          · go_light
            obtain ⟨⟨q0, q1, q2, q3, q4, q5, q6, q7⟩, ⟨x0, x1, x2, x3, x4, x5, x6, x7, x8, x9, x10, x11⟩, -⟩ := hq
            go_simp
            try with_reducible rfl
            done
          try simp only [Act.put, List.setIfInBounds_toArray, List.set_cons_zero, List.set_cons_succ]
        refine qNil ?_
        intro w3 hC
        have HG3 := Lib.hid hC.gr
        clear hC m1 m2 m3 m4 m5 m6 m7
        go_wp2_with fail
        go_roundw
        case rel => exact ⟨j + 1, by omega, (by first | rfl | rw [hwj]), Lib.hid ⟨HST.out.1.gr HG3.out, HST.out.2.1.trans HG3.out, NO.out HF.out⟩⟩
        case measure => first | (simp [intOf]; omega) | (rw [hwj]; simp [intOf]; omega)
      | true =>
        have HF : Hid (pickB d t = true) := Lib.hid (by rw [HPB.out]; rfl)
        go_upto_region 5 with (fail)
        refine qRegion (fun w' => NxR wr Q b (off + r * 12) d t vt w') (by kernel_rfl) (by kernel_rfl) (HNX.out.next (Gr.refl _).drew) ?_
        iterate 11
          refine qTake (by kernel_rfl) ?_
          apply Exists.intro
          refine ⟨fun wq hq => ?_, ?_⟩
          · go_light
            obtain ⟨⟨q0, q1, q2, q3, q4, q5, q6, q7⟩, ⟨x0, x1, x2, x3, x4, x5, x6, x7, x8, x9, x10, x11⟩, -⟩ := hq
            go_simp
            try with_reducible rfl
            done
          try simp only [Act.put, List.setIfInBounds_toArray, List.set_cons_zero, List.set_cons_succ]
        refine qCall (by kernel_rfl) ?_
        apply Exists.intro
        refine ⟨?_, ?_⟩
        · apply Exists.intro
          apply Exists.intro
          refine ⟨fun wq => ?_, fun wq hq => ?_⟩
          · go_light
            go_simp
            exact ⟨rfl, rfl⟩
          · exact (CH.out wq).mono fun e w'' ⟨he, hg⟩ => ⟨he, hq.next hg⟩
        try simp only [Act.put, List.setIfInBounds_toArray, List.set_cons_zero, List.set_cons_succ]
        iterate 8
          refine qTake (by kernel_rfl) ?_
          apply Exists.intro
          refine ⟨fun wq hq => ?_, ?_⟩
          · go_light
            obtain ⟨⟨q0, q1, q2, q3, q4, q5, q6, q7⟩, ⟨x0, x1, x2, x3, x4, x5, x6, x7, x8, x9, x10, x11⟩, -⟩ := hq
            go_simp
            try with_reducible rfl
            done
          try simp only [Act.put, List.setIfInBounds_toArray, List.set_cons_zero, List.set_cons_succ]
        refine qCall (by kernel_rfl) ?_
        apply Exists.intro
        refine ⟨?_, ?_⟩
        · apply Exists.intro
          apply Exists.intro
          refine ⟨fun wq => ?_, fun wq hq => ?_⟩
          · go_light
            go_simp
            exact ⟨rfl, rfl⟩
          · exact (CL.out wq).mono fun e w'' ⟨he, hg⟩ => ⟨he, hq.next hg⟩
        try simp only [Act.put, List.setIfInBounds_toArray, List.set_cons_zero, List.set_cons_succ]
        iterate 1
          refine qTake (by kernel_rfl) ?_
          apply Exists.intro
          refine ⟨fun wq hq => ?_, ?_⟩
          · go_light
            obtain ⟨⟨q0, q1, q2, q3, q4, q5, q6, q7⟩, ⟨x0, x1, x2, x3, x4, x5, x6, x7, x8, x9, x10, x11⟩, -⟩ := hq
            go_simp
            try with_reducible rfl
            done
          try simp only [Act.put, List.setIfInBounds_toArray, List.set_cons_zero, List.set_cons_succ]
        refine qNil ?_
        intro w3 hC
        have HG3 := Lib.hid hC.gr
        clear hC m1 m2 m3 m4 m5 m6 m7
        go_wp2_with fail
        refine bodyPost_ret (v := .tuple #[.int .i64 ((r : Nat) : Int), .bool true]) (by simp [results, Tryz.results15, go_sem]) rfl ?_
        exact ⟨r, t, rfl, HOT.out, HF.out, HST.out.2.1.trans HG3.out⟩
end Go.Proofs.YtlihcjlonafohaaGreat
