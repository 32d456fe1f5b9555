/- Walks: files as drafts. Walks: drafts as a disk. -/
import Derived.Test.YtlnhbndghnkfmaaGreatDoorZm20
import Derived.Test.YtlnhbndghnkfmaaGreatDoorZm12
import Derived.Laws.BytesArg
namespace Go.Proofs.YtlnhbndghnkfmaaGreatDoor
open Go.RowKit

section
variable {P : Program} (W : World)
theorem run_append_str (base : Nat) (t u ty e : TypeId) (i : TypeInfo) (ht : P.underlying t = some (.slice e)) (hu : P.underlying u = some .string) (hi : P.info? e = some i) (hs1 : i.size = 1)
    (g n cap : Nat) (xs : List Value) (hown : W.ownsRow base e 1 (.slice (some ⟨g, 0, none⟩) n cap) n xs) (s : ByteArray) (hroom : n + s.size ≤ cap) :
    ∃ w', (Builtin.append_ #[t, u] ty #[.slice (some ⟨g, 0, none⟩) n cap, .string s]).run P W = .ok (.slice (some ⟨g, 0, none⟩) (n + s.size) cap) w' ∧
      w'.ownsRow base e 1 (.slice (some ⟨g, 0, none⟩) (n + s.size) cap) (n + s.size) (xs ++ Lib.strCells s) ∧ Kp (some g) W w' := by
  have hxl : xs.length = n := by simpa using hown.1
  have hlen : (xs ++ Lib.strCells s).length = (n + s.size) * 1 := by rw [List.length_append, hxl, Lib.strCells_length, Nat.mul_one]
  rcases hown.2 with ⟨hh, _⟩ | ⟨g', cap', cur, hh, hbg, hg, hnc, hcm, hcs, htake⟩
  · cases hh
  · injection hh with h1 h2 h3
    injection h1 with h1
    injection h1 with h1
    subst h1 h3
    have hcs' : cur.size = cap := by simpa using hcs
    have hr := Lib.run_append_room_string (P := P) W t u ty e i ht hu hi hs1 g n cap cur hg s hroom (by omega)
    refine ⟨_, hr, ⟨hlen, .inr ⟨g, cap, _, rfl, hbg, setRow_heap W g cur _ e _ hg, hroom, hcm, ?_, ?_⟩⟩, ⟨rfl, rfl, rfl, by simp, fun k _ hk => setRow_other W g k _ (fun e => hk (by rw [e]))⟩⟩
    · simp only [List.size_toArray, List.length_append, List.length_take, List.length_drop, Array.length_toList, Lib.strCells_length]
      omega
    · have ht' : cur.toList.take n = xs := by simpa using htake
      rw [ht', ← hlen]
      exact List.take_left
end
theorem step_append_str {ops : Array Oper} {o : Oper} {a : Act} {W : World} {K : Act → World → Prop} {Q : Exit → Act → World → Prop} {E : Prop} (hgd : o.guard = none) (s x : Operand)
    (ho : o.op = .call { callee := .builtin .append, args := #[s, x], argTypes := #[121, 9] }) (B g n cap N : Nat) (xs : List Value) (str : ByteArray) (hs : a.eval s = .slice (some ⟨g, 0, none⟩) n cap)
    (hown : W.ownsRow B 5 1 (.slice (some ⟨g, 0, none⟩) n cap) n xs) (hx : a.eval x = .string str) (hN : n + str.size = N) (hroom : N ≤ cap)
    (h : ∀ w', w'.ownsRow B 5 1 (.slice (some ⟨g, 0, none⟩) N cap) N (xs ++ Lib.strCells str) → Kp (some g) W w' → K (a.put o.dst (.slice (some ⟨g, 0, none⟩) N cap)) w') :
    if Region.wanted o (yielded ops a.tmps) = true then Oper.wp Tryz.prog o a W K Q else E := by
  obtain ⟨i0, hi, hz0, hz1, hz2⟩ := info_parts infoU8
  have hw : Region.wanted o (yielded ops a.tmps) = true := by simp [Region.wanted, hgd]
  rw [if_pos hw]
  subst hN
  obtain ⟨w', hr, h2, h3⟩ := run_append_str (P := Tryz.prog) W B 121 9 o.type 5 i0 Tryz.underlying121 Tryz.underlying9 hi hz1 g n cap xs hown str hroom
  unfold Oper.wp execOp
  simp only [ho, resolve, invoke, builtin, Sem.run_bind, Sem.run_pure, Result.andThen_ok, List.map_toArray, List.map_cons, List.map_nil, hs, hx, hr]
  exact h w' h2 h3

/-- The first k files as drafts. -/
structure DOInv (L : List F) (v : Value) (k : Nat) (M : List FB) (w wr : World) : Prop where
  hk : k ≤ L.length
  len : M.length = k
  fl : files M = L.take k
  row : wr.ownsRow (w.heap.size + 1) 202 3 v L.length (dcells (M ++ List.replicate (L.length - k) z0))
  bytes : ∀ p ∈ M, BO wr (w.heap.size + 1) p
  sep : Sep M
  gr : Gr w wr
  lo : w.heap.size < wr.heap.size
def DORel (L : List F) (v : Value) (w : World) (i : Value) (wr : World) : Prop := ∃ (k : Nat) (M : List FB), i = .int .i64 (k : Int) ∧ DOInv L v k M w wr
/-- A call's answer: drafts of these files, in new memory. -/
def RetDrafts (L : List F) (w : World) (e : Ending) (w' : World) : Prop := ∃ v M, e = .returned v ∧ files M = L ∧ DR w' w.heap.size v M ∧ Gr w w'

theorem make_drafts (n : Nat) (hn : n * 48 ≤ 281474976710656) : ∃ M0 : Array Value, M0.toList = dcells (List.replicate n z0) ∧ M0.size = n * 3 ∧
    ∀ W : World, (Instr.makeSlice 192 (.int .i64 (n : Int)) (.int .i64 (n : Int))).run Tryz.prog W = .ok (.slice (some ⟨W.heap.size, 0, none⟩) n n) (W.alloc (.cells M0 202)) := by
  obtain ⟨i0, hi, hz0, hz1, hz2⟩ := info_parts infoDraft
  refine ⟨madeCells #[.string ⟨#[]⟩, .slice none 0 0, .int .i64 0] (n * 3), made_drafts n, by simp [madeCells], fun W => ?_⟩
  have h := run_make (P := Tryz.prog) W 192 202 i0 _ Tryz.underlying192 hi hz0 .i64 .i64 (n : Int) (n : Int) (by omega) (by omega) (by rw [hz2]; omega) (by omega)
  rw [hz1, Int.toNat_natCast] at h
  exact h
theorem make_bytes (a b : Nat) (hn : a + b ≤ 281474976710656) : ∃ M0 : Array Value, M0.size = a + b ∧
    ∀ W : World, (Instr.makeSlice 121 (.int .i64 0) (.int .i64 ((a : Int) + (b : Int)))).run Tryz.prog W = .ok (.slice (some ⟨W.heap.size, 0, none⟩) 0 (a + b)) (W.alloc (.cells M0 5)) := by
  obtain ⟨i0, hi, hz0, hz1, hz2⟩ := info_parts infoU8
  refine ⟨madeCells #[.int .u8 0] (a + b), by simp [madeCells], fun W => ?_⟩
  have h := run_make (P := Tryz.prog) W 121 5 i0 _ Tryz.underlying121 hi hz0 .i64 .i64 0 ((a : Int) + (b : Int)) (by omega) (by omega) (by rw [hz2]; omega) (by omega)
  rw [hz1, show ((a : Int) + (b : Int)).toNat = a + b by omega, Nat.mul_one] at h
  exact h
theorem dbox (f : F) (Mb : Array Value) (N : Nat) (hb : Mb.size = N) (hN : N ≤ 281474976710656) (wr : World) (B : Nat) (hB : B ≤ wr.heap.size) :
    ∃ W7, W7 = (wr.alloc (.cells #[.string f.name, .string f.kept, .string f.loose] 63)).alloc (.cells Mb 5) ∧ Gr wr W7 ∧ FCell W7 wr.heap.size 0 f ∧
      W7.ownsRow B 5 1 (.slice (some ⟨wr.heap.size + 1, 0, none⟩) 0 N) 0 [] ∧ wr.heap.size + 1 < W7.heap.size := by
  have s1 : (wr.alloc (.cells #[.string f.name, .string f.kept, .string f.loose] 63)).heap.size = wr.heap.size + 1 := by simp
  have h := World.ownsRow_made (base := B) (e := 5) (size := 1) (wr.alloc (.cells #[.string f.name, .string f.kept, .string f.loose] 63)) Mb N (by rw [s1]; omega) (by unfold maxLen; omega) (by rw [hb, Nat.mul_one])
  rw [s1] at h
  exact ⟨_, rfl, (gr_box wr _).alloc _, (fbox wr f).gr (gr_box _ _), h, by simp⟩
theorem own_kp {w w' : World} {B : Nat} {t : TypeId} {size : Nat} {v : Value} {n : Nat} {xs : List Value} {r : Option Nat} (h : w.ownsRow B t size v n xs) (k : Kp r w w') (hr : v.ownBlock = none ∨ v.ownBlock ≠ r) : w'.ownsRow B t size v n xs := World.ownsRow.kept h k hr
theorem own_ne {w : World} {B : Nat} {t : TypeId} {size : Nat} {v : Value} {n : Nat} {xs : List Value} (h : w.ownsRow B t size v n xs) {b : Nat} (hb : w.heap.size ≤ b) : v.ownBlock = none ∨ v.ownBlock ≠ some b := by
  right
  intro e
  have := (h.lt b e).2
  omega
theorem rep_set (M : List FB) (n k : Nat) (hm : M.length = k) (hk : k < n) (p : FB) : (M ++ List.replicate (n - k) z0).set k p = (M ++ [p]) ++ List.replicate (n - (k + 1)) z0 := by
  rw [List.set_append_right _ _ (by omega), hm, Nat.sub_self, show n - k = (n - (k + 1)) + 1 by omega, List.replicate_succ, List.set_cons_zero, List.append_assoc]
  rfl
theorem do_step {L : List F} {n k bx : Nat} {M : List FB} {f : F} {w wr w9 : World} (inv : DOInv L (.slice (some ⟨w.heap.size + 1, 0, none⟩) n n) k M w wr) (hn : n = L.length) (hk : k < L.length) (hf : f = L[k]) (hbx : bx = wr.heap.size)
    (hkp : Kp (some (bx + 1)) wr w9) (hown : w9.ownsRow (w.heap.size + 1) 5 1 (.slice (some ⟨bx + 1, 0, none⟩) (f.kept.size + f.loose.size) (f.kept.size + f.loose.size)) (f.kept.size + f.loose.size) (bcells f)) :
    (∀ j, w9.frozen? ⟨w.heap.size + 1, j, none⟩ = false) ∧ w9.cell? ⟨w.heap.size + 1, k * 3, none⟩ = some (.string ⟨#[]⟩) ∧ w9.cell? ⟨w.heap.size + 1, k * 3 + 1, none⟩ = some (.slice none 0 0) ∧ w9.cell? ⟨w.heap.size + 1, k * 3 + 2, none⟩ = some (.int .i64 0) ∧
    DOInv L (.slice (some ⟨w.heap.size + 1, 0, none⟩) n n) (k + 1) (M ++ [(f, .slice (some ⟨bx + 1, 0, none⟩) (f.kept.size + f.loose.size) (f.kept.size + f.loose.size))]) w
      (((w9.setCell ⟨w.heap.size + 1, k * 3, none⟩ (.string f.name)).setCell ⟨w.heap.size + 1, k * 3 + 1, none⟩ (.slice (some ⟨bx + 1, 0, none⟩) (f.kept.size + f.loose.size) (f.kept.size + f.loose.size))).setCell ⟨w.heap.size + 1, k * 3 + 2, none⟩ (.int .i64 (f.kept.size : Int))) := by
  have hrow := own_kp inv.row hkp (own_ne inv.row (by omega))
  rw [← hn] at hrow
  have hml := inv.len
  have hat : ∀ r, r < 3 → w9.cell? ⟨w.heap.size + 1, k * 3 + r, none⟩ = (dcell z0)[r]? := by
    intro r hr
    rw [hrow.cellAt (k * 3 + r) (by omega)]
    have h := rows_at dcell 3 dcell_len (M ++ List.replicate (n - k) z0) k r (by rw [List.length_append, List.length_replicate, hml]; omega) hr
    rw [List.getElem_append_right (by omega), List.getElem_replicate] at h
    exact h
  refine ⟨hrow.frozenAt, hat 0 (by decide), hat 1 (by decide), hat 2 (by decide), ?_⟩
  have hput := own_put3 dcell_len hrow (i := k) (by rw [List.length_append, List.length_replicate, hml]; omega) (y := (f, .slice (some ⟨bx + 1, 0, none⟩) (f.kept.size + f.loose.size) (f.kept.size + f.loose.size))) rfl
  rw [rep_set M n k hml (by omega)] at hput
  have hb : ∀ p ∈ M, BO w9 (w.heap.size + 1) p := fun p hp => own_kp (inv.bytes p hp) hkp (own_ne (inv.bytes p hp) (by omega))
  have hset : ∀ {W : World} {p : FB}, BO W (w.heap.size + 1) p → p.2.ownBlock ≠ some (w.heap.size + 1) → ∀ i u, BO (W.setCell ⟨w.heap.size + 1, i, none⟩ u) (w.heap.size + 1) p := fun h hne i u => own_set_other h hne i u
  have hne : ∀ p : FB, BO w9 (w.heap.size + 1) p → p.2.ownBlock ≠ some (w.heap.size + 1) := fun p hp => own_types hrow hp (by decide) rfl
  refine ⟨by omega, by rw [List.length_append, hml]; rfl, ?_, by rw [← hn]; exact hput, ?_, ?_, ?_, ?_⟩
  · unfold files
    rw [List.map_append, List.take_succ_eq_append_getElem hk, ← hf]
    have := inv.fl
    unfold files at this
    rw [this]
    rfl
  · intro p hp
    have h9 : BO w9 (w.heap.size + 1) p := by
      rcases List.mem_append.1 hp with h | h
      · exact hb p h
      · rw [List.mem_singleton.1 h]
        exact hown
    have := hne p h9
    exact hset (hset (hset h9 this _ _) this _ _) this _ _
  · refine List.pairwise_append.2 ⟨inv.sep, List.pairwise_singleton _ _, fun a ha b hb' g hg e => ?_⟩
    rw [List.mem_singleton.1 hb'] at e
    have e1 : bx + 1 = g := Option.some.inj e
    have := ((inv.bytes a ha).lt g hg).2
    omega
  · have hlo := inv.lo
    exact Below.setCell (Below.setCell (Below.setCell (Below.trans inv.gr (hkp.below (by omega) (fun g hg => by have e := Option.some.inj hg; omega))) (p := ⟨w.heap.size + 1, k * 3, none⟩) (show w.heap.size ≤ w.heap.size + 1 by omega) _) (p := ⟨w.heap.size + 1, k * 3 + 1, none⟩) (show w.heap.size ≤ w.heap.size + 1 by omega) _) (p := ⟨w.heap.size + 1, k * 3 + 2, none⟩) (show w.heap.size ≤ w.heap.size + 1 by omega) _
  · have := hkp.size
    have := inv.lo
    simp [World.setCell]
    omega
set_option maxRecDepth 100000 in
set_option maxHeartbeats 4000000 in
theorem draftsOf_any (v : Value) (L : List F) (w : World) (hv : FV w v L) (hf : Fit L) (hlen : L.length * 48 ≤ 281474976710656) :
    Calls Tryz.prog 171 #[.agg #[v]] w fun e w' => RetDrafts L w e w' := by
  obtain ⟨A, c, rfl, l1, ⟨l2, _⟩, l3⟩ := hv
  have hc63 : c ≤ 9223372036854775807 := l2
  have HA := Lib.hid l3
  have HFit := Lib.hid hf
  obtain ⟨n, hn⟩ : ∃ n, n = L.length := ⟨_, rfl⟩
  rw [← hn] at l1 hlen ⊢
  have HN := Lib.hid hn
  clear l3 l2 hn hf
  obtain ⟨M0, hM1, hM2, hmk⟩ := make_drafts n hlen
  have hmk : ∀ W : World, (Instr.makeSlice 192 (.int .i64 (n : Int)) (.int .i64 (n : Int))).run Tryz.prog W = .ok (.slice (some ⟨W.heap.size, 0, none⟩) n n) (W.alloc (.cells M0 202)) := hmk
  have HST : Hid (DORel L (.slice (some ⟨w.heap.size + 1, 0, none⟩) n n) w (.int .i64 0) ((w.alloc (.cells #[.slice A n c] 24)).alloc (.cells M0 202))) := by
    refine ⟨0, [], rfl, Nat.zero_le _, rfl, by simp [files], ?_, (fun p hp => by cases hp), List.Pairwise.nil, (gr_box w _).alloc _, (by simp; omega)⟩
    have h := World.ownsRow_lit (base := w.heap.size + 1) (e := 202) (size := 3) (w.alloc (.cells #[.slice A n c] 24)) M0 n (by simp) (by unfold maxLen; omega) hM2
    rw [hM1] at h
    rw [List.nil_append, Nat.sub_zero, ← HN.out]
    simpa using h
  clear hM1 hM2
  go_enter Tryz.func171, Tryz.ntmps171
  go_wp2_with fail
  clear hmk
  go_loopw [14] (fun i wr => DORel L (.slice (some ⟨w.heap.size + 1, 0, none⟩) n n) w i wr) (fun i _ => n - (intOf i).toNat)
  case atStart => exact HST.out
  case round =>
    obtain ⟨k, M, rfl, inv⟩ := hrel
    have HI := Lib.hid inv
    have hk : k ≤ n := by rw [HN.out]; exact inv.hk
    clear inv HST
    by_cases hlt : k < n
    · have hkL : k < L.length := by rw [← HN.out]; exact hlt
      obtain ⟨b, off, rfl, hc0, hc1, hc2⟩ := HA.out k hkL
      have c0 := HI.out.gr.cell hc0
      have c1 := HI.out.gr.cell hc1
      have c2 := HI.out.gr.cell hc2
      clear hc0 hc1 hc2
      have hfit := HFit.out _ (List.getElem_mem hkL)
      unfold FitF F.size at hfit
      have hs := hfit.2
      obtain ⟨f, hfe⟩ : ∃ f, f = L[k] := ⟨_, rfl⟩
      rw [← hfe] at c0 c1 c2 hs
      have HFE := Lib.hid hfe
      obtain ⟨Mb, hb1, hmb⟩ := make_bytes f.kept.size f.loose.size hs
      have HB1 := Lib.hid hb1
      clear hfit hfe hb1
      obtain ⟨W7, hW7, G7, hf7, ho7, hz7⟩ := dbox f Mb (f.kept.size + f.loose.size) HB1.out hs wr (w.heap.size + 1) (by have := HI.out.lo; omega)
      have HO7 := Lib.hid ho7
      clear ho7
      go_wp2_with fail
      rw [← hW7]
      clear hW7 hmb c0 c1 c2
      obtain ⟨bx, hbx⟩ : ∃ b, b = wr.heap.size := ⟨_, rfl⟩
      rw [← hbx] at hf7 HO7 hz7 ⊢
      obtain ⟨x0, x1, x2⟩ := hf7
      have HBX := Lib.hid hbx
      clear hbx
      have hnb : some bx ≠ some (bx + 1) := fun e => by injection e; omega
      have HNB := Lib.hid hnb
      clear hnb
      go_region_law
        (first
          | (refine step_append_str rfl (.tmp 27) (.tmp 29) rfl (w.heap.size + 1) (bx + 1) 0 (f.kept.size + f.loose.size) f.kept.size [] f.kept (by simp [Act.eval]) HO7.out (by simp [Act.eval]) (Nat.zero_add _) (Nat.le_add_right _ _) ?_
             intro w8 hown8 hkp8
             have x8 := hkp8.cell (p := ⟨bx, 2, none⟩) x2 HNB.out)
          | (refine step_append_str rfl (.tmp 30) (.tmp 32) rfl (w.heap.size + 1) (bx + 1) f.kept.size (f.kept.size + f.loose.size) (f.kept.size + f.loose.size) _ f.loose (by simp [Act.eval]) hown8 (by simp [Act.eval]) rfl (Nat.le_refl _) ?_
             intro w9 hown9 hkp9))
      all_goals
        have y0 := hkp9.cell (hkp8.cell (p := ⟨bx, 0, none⟩) x0 HNB.out) HNB.out
        have y1 := hkp9.cell (hkp8.cell (p := ⟨bx, 1, none⟩) x1 HNB.out) HNB.out
        have hka : Hid (Kp (some (bx + 1)) wr w9) := Kp.trans (Kp.of_gr G7.drew) (Kp.trans hkp8 hkp9)
        obtain ⟨hfr, z1, z2, z3, hinv⟩ := do_step HI.out HN.out hkL HFE.out HBX.out hka.out (by rw [List.nil_append] at hown9; exact hown9)
        have HQ := Lib.hid hinv
        have f0 := hfr (k * 3)
        have f1 := hfr (k * 3 + 1)
        have f2 := hfr (k * 3 + 2)
        clear hown8 hkp8 hown9 hkp9 hfr hinv x0 x1 x2 x8 HI
        go_wp2_with fail
        go_roundw
        case rel => exact ⟨k + 1, _, by go_num, HQ.out⟩
        case measure => simp [intOf]; omega
    · have hkn : k = L.length := by have := HI.out.hk; rw [← HN.out] at this ⊢; omega
      have hD : Hid (DR wr w.heap.size (.slice (some ⟨w.heap.size + 1, 0, none⟩) n n) M ∧ files M = L) := by
        refine ⟨⟨?_, fun p hp => own_le (HI.out.bytes p hp) (by omega), HI.out.sep⟩, ?_⟩
        · have h := HI.out.row
          rw [hkn, Nat.sub_self, List.replicate_zero, List.append_nil] at h
          show wr.ownsRow _ _ _ _ _ _
          rw [HI.out.len, hkn]
          exact own_le h (by omega)
        · rw [HI.out.fl, hkn, List.take_of_length_le (Nat.le_refl _)]
      clear hkn
      go_wp2
      go_ret
      exact ⟨_, M, rfl, hD.out.2, hD.out.1, HI.out.gr⟩
end Go.Proofs.YtlnhbndghnkfmaaGreatDoor
namespace Go.Proofs.YtlnhbndghnkfmaaGreatDoor
open Go.RowKit

set_option maxRecDepth 100000 in
/-- A slice of bytes as a string. -/
theorem conv_sl {w : World} {v : Value} {n : Nat} {s : ByteArray} (h : SL w 1 v n (Lib.strCells s)) : (convert 121 9 v).run Tryz.prog w = .ok (.string s) w := by
  obtain ⟨A, c, rfl, h1, h2, h3, h4⟩ := h
  rw [Lib.strCells_length, Nat.mul_one] at h3
  cases A with
  | none =>
    have hc := h2.2 rfl
    have hs : s = ByteArray.empty := by
      apply ByteArray.ext
      exact Array.eq_empty_of_size_eq_zero (show s.size = 0 by omega)
    rw [hs]
    exact run_convert_bytes_nil w 121 5 Tryz.underlying121 Tryz.underlying5 _ _ _ Tryz.underlying9
  | some a =>
    have hplain : ∃ b off, n = 0 ∧ a.spot ≠ none ∨ a = ⟨b, off, none⟩ := by
      obtain ⟨b, off, sp⟩ := a
      cases sp with
      | none => exact ⟨b, off, .inr rfl⟩
      | some x =>
        refine ⟨b, off, .inl ⟨?_, by simp⟩⟩
        rcases Nat.eq_zero_or_pos n with hz | hz
        · exact hz
        · obtain ⟨b', off', ha, _⟩ := h4 0 (.int .u8 (s.data.toList[0]'(by rw [Array.length_toList]; show 0 < s.size; omega)).toNat) (by unfold Lib.strCells; rw [List.getElem?_map, List.getElem?_eq_getElem (by rw [Array.length_toList]; show 0 < s.size; omega)]; rfl)
          injection ha with ha
          injection ha with _ _ ha
          cases ha
    obtain ⟨b, off, ⟨hn, _⟩ | rfl⟩ := hplain
    · have hs : s = ByteArray.empty := by
        apply ByteArray.ext
        exact Array.eq_empty_of_size_eq_zero (show s.size = 0 by omega)
      rw [hs, hn]
      rw [run_convert_bytes_string w 121 9 5 _ 0 c Tryz.underlying121 Tryz.underlying5 Tryz.underlying9, run_bytesToString w _ 0 c [] (by simp [loadCells, loadCellsFrom])]
      rfl
    · have h := run_convert_bytes_arg (P := Tryz.prog) w 121 5 Tryz.underlying121 Tryz.underlying5 b off n c (s.data.toList.map fun x => (x.toNat : Int)) (by rw [List.length_map, Array.length_toList]; show s.size = n; omega) (fun i hi => by
        have hi' : i < s.data.toList.length := by rw [Array.length_toList]; show i < s.size; omega
        obtain ⟨b', off', ha, hc⟩ := h4 i (.int .u8 (s.data.toList[i]).toNat) (by unfold Lib.strCells; rw [List.getElem?_map, List.getElem?_eq_getElem hi']; rfl)
        injection ha with ha
        injection ha with e1 e2
        subst e1 e2
        rw [hc]
        simp only [List.getD, List.getElem?_map, List.getElem?_eq_getElem hi', Option.map_some, Option.getD_some]) 9 Tryz.underlying9
      rw [h]
      congr 2
      apply ByteArray.ext
      apply Array.toList_inj.1
      rw [strOfNums_data, List.map_map]
      conv => rhs; rw [← List.map_id s.data.toList]
      apply List.map_congr_left
      intro x _
      simp
theorem elemU8 : Tryz.prog.underlying 121 = some (.slice (Tryz.prog.elem 121)) ∧ Tryz.prog.elem 121 = 5 := ⟨by kernel_rfl, by kernel_rfl⟩
theorem sizeU8 : ∀ W : World, (sizeOf 5).run Tryz.prog W = .ok 1 W := fun W => by kernel_rfl
theorem bslice_from (n c k : Nat) (hk : k ≤ n) (A : Option Addr) : ∀ W : World, (Instr.slice 121 (.slice A n c) (some (.int .i64 (k : Int))) none none).run Tryz.prog W = .ok (sliced A k n c 1) W := by
  intro W
  rw [run_slice_l W _ A n c elemU8.1 .i64 (k : Int) (by omega) (by omega), elemU8.2, sizeU8]
  rfl
theorem bslice_to (n c k : Nat) (hk : k ≤ c) (A : Option Addr) : ∀ W : World, (Instr.slice 121 (.slice A n c) none (some (.int .i64 (k : Int))) none).run Tryz.prog W = .ok (.slice A k c) W := by
  intro W
  rw [run_slice_h W _ A n c elemU8.1 .i64 (k : Int) (by omega) (by omega), elemU8.2, sizeU8]
  show Result.ok (sliced A 0 (k : Int).toNat c 1) W = _
  unfold sliced
  rw [Int.toNat_natCast]
  cases A with
  | none => simp
  | some a => simp [Addr.add]
theorem conv_kept {w : World} {B : Nat} {f : F} {A : Option Addr} {n c : Nat} (h : BO w B (f, .slice A n c)) (hn : n = f.size) : (convert 121 9 (.slice A f.kept.size c)).run Tryz.prog w = .ok (.string f.kept) w := by
  have hs := own_sl h
  show _
  have hs : SL w 1 (.slice A n c) n (bcells f) := by rw [hn] at hs ⊢; exact hs
  have ht := SL.take (k := f.kept.size) hs (by rw [hn]; unfold F.size; omega)
  have e : (bcells f).take (f.kept.size * 1) = Lib.strCells f.kept := by
    unfold bcells
    rw [Nat.mul_one, List.take_left' (Lib.strCells_length _)]
  rw [e] at ht
  exact conv_sl ht
theorem conv_loose {w : World} {B : Nat} {f : F} {A : Option Addr} {n c : Nat} (h : BO w B (f, .slice A n c)) (hn : n = f.size) : (convert 121 9 (sliced A f.kept.size n c 1)).run Tryz.prog w = .ok (.string f.loose) w := by
  have hs := own_sl h
  have hs : SL w 1 (.slice A n c) n (bcells f) := by rw [hn] at hs ⊢; exact hs
  have ht := SL.drop (k := f.kept.size) hs (by rw [hn]; unfold F.size; omega)
  have e : (bcells f).drop (f.kept.size * 1) = Lib.strCells f.loose := by
    unfold bcells
    rw [Nat.mul_one, List.drop_left' (Lib.strCells_length _)]
  rw [e] at ht
  exact conv_sl ht
end Go.Proofs.YtlnhbndghnkfmaaGreatDoor
