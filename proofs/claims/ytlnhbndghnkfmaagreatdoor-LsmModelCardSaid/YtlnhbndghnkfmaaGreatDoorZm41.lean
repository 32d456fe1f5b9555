/- Walks: Flush, over what drops strays: the program's. Walks: slices.IndexFunc and slices.DeleteFunc of changes, by the predicate that merge hands them. -/
import Derived.Test.YtlnhbndghnkfmaaGreatDoorZm38
import Derived.Test.YtlnhbndghnkfmaaGreatDoorZm40
import Derived.Test.YtlnhbndghnkfmaaGreatDoorZm19
import Derived.Test.YtlnhbndghnkfmaaGreatDoorZm23
namespace Go.Proofs.YtlnhbndghnkfmaaGreatDoor
open Go.RowKit

theorem keepR_fit {L : List F} {m : Nat} {l : List CR} {letter : ByteArray} (hf : Fit L) : Fit (keepR L m l letter).1.1 := by
  unfold keepR
  split
  · intro f h; cases h
  · split
    · intro f h; cases h
    · split
      · intro f h; cases h
      · exact run_fit (run_fit hf)
theorem syncPlan_len (L : List F) (p : ByteArray) : (syncPlan L p).length ≤ 1 := by
  unfold syncPlan
  split
  · exact Nat.zero_le _
  · exact Nat.le_refl _
theorem keepP_len (L : List F) (m : Nat) (l : List CR) (letter : ByteArray) : (keepP L m l letter).length ≤ 4 := by
  unfold keepP
  rw [List.length_append]
  have := appendPlan_len L mP (markL letter m)
  show 2 + _ ≤ 4
  omega
theorem keepR_len {L : List F} {m : Nat} {l : List CR} {letter : ByteArray} (hl : L.length ≤ 1000000000000) : ((keepR L m l letter).1.2.length + (keepR L m l letter).1.1.length + 1) * 48 ≤ 140737488355328 := by
  unfold keepR
  split
  · show (0 + 0 + 1) * 48 ≤ _
    omega
  · split
    · show (0 + 0 + 1) * 48 ≤ _
      omega
    · split
      · show (0 + 0 + 1) * 48 ≤ _
        omega
      · have h1 := run_len (L := (run L (keepP L m l letter)).1) (ops := syncPlan (run L (keepP L m l letter)).1 mP)
        have h2 := run_len (L := L) (ops := keepP L m l letter)
        have h3 := keepP_len L m l letter
        have h4 := syncPlan_len (run L (keepP L m l letter)).1 mP
        dsimp only
        have e : (keepP L m l letter ++ syncPlan (run L (keepP L m l letter)).1 mP).length = (keepP L m l letter).length + (syncPlan (run L (keepP L m l letter)).1 mP).length := List.length_append
        omega
/-- Flush, in plain words. -/
noncomputable def flushR (s : St) : St × List O × Nat :=
  if s.mem.length = 0 then (s, [], 0)
  else if 16 ≤ s.tabs.length then (st0, [], 4)
  else if (keepR s.files s.marks s.mem tabP).2 ≠ 0 then (st0, [], (keepR s.files s.marks s.mem tabP).2)
  else (⟨keptF (keepR s.files s.marks s.mem tabP).1.1 (s.tabs ++ [nameW tabP s.marks]) (s.gen + 1), [], s.tabs ++ [nameW tabP s.marks], s.gen + 1, s.marks + 1⟩, (keepR s.files s.marks s.mem tabP).1.2 ++ strayO (keepR s.files s.marks s.mem tabP).1.1 (s.tabs ++ [nameW tabP s.marks]) (s.gen + 1), 0)
set_option maxRecDepth 100000 in
set_option maxHeartbeats 4000000 in
theorem flush_m (B bd : Nat) (vF vM vT : Value) (s : St) (w : World) (hD : DRow w B bd vF vM vT (.slice none 0 0) s.files s.mem s.tabs s.gen s.marks [])
    (hs : StOk s) (hfl : s.files.length ≤ 1000000000000) (hml : ∀ c ∈ s.mem, c.key.size ≤ 281474976710656 ∧ c.val.size ≤ 281474976710000) (hB : B ≤ w.heap.size) (hH : Halves w) :
    Calls Tryz.prog 86 #[.pointer (some ⟨bd, 0, none⟩)] w fun e w' => RetMeth B bd (flushR s) w e w' := by
  obtain ⟨AM, kM, rfl, -, -⟩ := own_form hD.mem
  obtain ⟨AT, kT, rfl, -, -⟩ := own_form hD.tabs
  obtain ⟨nM, hnM⟩ : ∃ n, n = s.mem.length := ⟨_, rfl⟩
  obtain ⟨nT, hnT⟩ : ∃ n, n = s.tabs.length := ⟨_, rfl⟩
  rw [← hnM, ← hnT] at hD
  obtain ⟨r, hr⟩ : ∃ r, r = flushR s := ⟨_, rfl⟩
  rw [← hr]
  unfold flushR at hr
  rw [← hnM, ← hnT] at hr
  have HR := Lib.hid hr
  have HD := Lib.hid hD
  have HB := Lib.hid hB
  have c1 := obj_cell hD.obj (i := 1) rfl
  have c2 := obj_cell hD.obj (i := 2) rfl
  have H1 := Lib.hid (keep_m B bd vF (.slice AM nM kM) (.slice AT nT kT) (.slice none 0 0) (.slice AM nM kM) s.files s.mem s.tabs s.gen s.marks [] s.mem tabP w hD hD.mem.cv hs.fit hs.files hs.mem hs.marks hml rfl (by decide) hB hH)
  have HKF := Lib.hid (keepR_fit (m := s.marks) (l := s.mem) (letter := tabP) hs.fit)
  have HKL := Lib.hid (keepR_len (m := s.marks) (l := s.mem) (letter := tabP) hfl)
  have HOK := Lib.hid hs
  clear hr hD hs hml hB hH hfl
  by_cases h0 : nM = 0
  · have t0 : ((nM : Int) = 0) := by omega
    have e := HR.out
    rw [if_pos h0] at e
    have HE := Lib.hid e
    clear e h0 H1 hnM hnT
    go_enter Tryz.func86, Tryz.ntmps86
    go_wp2_with fail
    go_ret
    rw [HE.out]
    exact ⟨rfl, fun _ => ⟨_, _, _, _, HD.out⟩, Below.refl _ _⟩
  have t0 : ¬ ((nM : Int) = 0) := by omega
  by_cases h16 : 16 ≤ nT
  · have t1 : ((nT : Int) ≥ 16) := by omega
    have e := HR.out
    rw [if_neg h0, if_pos h16] at e
    have HE := Lib.hid e
    clear e h0 H1 hnM hnT h16
    go_enter Tryz.func86, Tryz.ntmps86
    go_wp2_with fail
    go_ret
    rw [HE.out]
    exact meth_no (by decide) (Below.refl _ _)
  have t1 : ¬ ((nT : Int) ≥ 16) := by omega
  obtain ⟨k, hk⟩ : ∃ k, k = keepR s.files s.marks s.mem tabP := ⟨_, rfl⟩
  have e := HR.out
  rw [if_neg h0, if_neg h16, ← hk] at e
  have HE := Lib.hid e
  rw [← hk] at H1 HKF HKL
  obtain ⟨⟨kL, kO⟩, ke⟩ := k
  unfold RetKeep at H1
  dsimp only at H1 HE HKF HKL
  clear e h0 h16 hk hnM
  go_enter Tryz.func86, Tryz.ntmps86
  go_wp2_with fail
  refine H1.out.mono ?_
  rintro e w1 ⟨nm, rfl, h1, b1⟩
  have HB1 := Lib.hid b1
  clear b1 c1 c2
  by_cases hke : ke = 0
  · subst hke
    obtain ⟨hnm, vF1, vD1, hd1⟩ := h1 rfl
    rw [List.nil_append] at hd1
    have e := HE.out
    rw [if_neg (by omega), ← hnm] at e
    have HE2 := Lib.hid e
    clear e h1 hnm H1
    have z1 := obj_free (i := 1) hd1.obj
    have c1 := obj_cell hd1.obj (i := 1) rfl
    obtain ⟨W1, hW1⟩ : ∃ W, W = w1.setCell ⟨bd, 1, none⟩ (.slice none 0 0) := ⟨_, rfl⟩
    have HD1 : Hid (DRow W1 B bd vF1 (.slice none 0 0) (.slice AT nT kT) vD1 kL [] s.tabs s.gen (s.marks + 1) kO) := Lib.hid (by rw [hW1]; exact drow_mem hd1 (CO.nil _ _))
    have HBW : Hid (Below B w W1) := Lib.hid (by rw [hW1]; exact HB1.out.setCell (p := ⟨bd, 1, none⟩) hd1.base _)
    have HBW2 : Hid (B ≤ W1.heap.size) := Lib.hid (by have := HBW.out.size; have := HB.out; omega)
    have HBD := Lib.hid hd1.base
    have HG := Lib.hid (wrap_succ (m := s.gen) HOK.out.gen)
    have HNT := Lib.hid hnT
    have hlT : (nT + 1) * 16 ≤ 140737488355328 := by omega
    clear hd1 hnT
    go_upto_region 9 with (fail)
    rw [← hW1]
    clear hW1 z1 c1
    have c2 := obj_cell HD1.out.obj (i := 2) rfl
    go_wp2_with (at_builtin; refine wpList_push_sk rfl (.tmp 41) (.tmp 43) rfl B (.slice AT nT kT) (.slice (some ⟨W1.heap.size, 0, none⟩) 1 1) s.tabs [nm] nT 1 HNT.out rfl rfl (HD1.out.tabs.gr ((Gr.refl _).alloc _)) rfl (sv_one1 _ nm _ rfl) hlT (by have := HBW2.out; simp; omega) ?_)
    intro A4 k4 w4 hown4 hk4 _
    have o4 := kp_obj hk4 (gr_obj ((Gr.refl _).alloc _) HD1.out.obj) (own_ne_obj HD1.out.tabs HD1.out.obj (by decide))
    have z2 := obj_free (i := 2) o4
    have e2 := obj_cell o4 (i := 2) rfl
    have z3 := obj_free (i := 3) o4
    have e3 := obj_cell o4 (i := 3) rfl
    have HF := Lib.hid (tabs_fin HBW.out HD1.out ((Gr.refl _).alloc _) HBW2.out hown4 hk4)
    have hwr := HG.out
    clear hown4 hk4 o4 hlT c2
    go_wp2_with fail
    refine (strays_m _ _ _ _ _ _ _ _ _ _ _ _ _ (drow_gen HF.out.1 (s.gen + 1)) HKF.out (by have := HOK.out.gen; omega) HKL.out (by have := HF.out.2.size; have := HB.out; simp [World.setCell] at *; omega)).mono ?_
    rintro e w5 ⟨rfl, h5, b5⟩
    have HR5 := Lib.hid h5
    have HB5 := Lib.hid (below_trans (HF.out.2.setCell (p := ⟨bd, 3, none⟩) HBD.out _) b5 HB.out)
    clear h5 b5 z2 e2 z3 e3 hwr
    go_wp2_with fail
    go_ret
    rw [HE2.out]
    obtain ⟨a, b, h⟩ := HR5.out
    exact ⟨rfl, fun _ => ⟨_, _, _, _, h⟩, HB5.out⟩
  · have t2 : ((ke : Int) == 0) = false := by rw [beq_eq_false_iff_ne]; omega
    have e := HE.out
    rw [if_pos hke] at e
    have HE2 := Lib.hid e
    clear e h1 hnT
    go_wp2_with fail
    go_ret
    rw [HE2.out]
    exact meth_no hke HB1.out
end Go.Proofs.YtlnhbndghnkfmaaGreatDoor
namespace Go.Proofs.YtlnhbndghnkfmaaGreatDoor
open Go.RowKit

set_option maxRecDepth 100000 in
theorem isGone_any (f : CR) (w : World) :
    Calls Tryz.prog 127 #[.agg #[.string f.key, .string f.val, .bool f.gone]] w fun e w' => e = .returned (.bool f.gone) ∧ Gr w w' := by
  have HG := Lib.hid (gr_box w (.cells #[.string f.key, .string f.val, .bool f.gone] 70))
  go_enter Tryz.func127, Tryz.ntmps127
  go_wp2
  go_ret
  exact ⟨rfl, HG.out⟩
/-- Where the first change stands that takes its key away. -/
def goneN (L : List CR) : Nat := L.findIdx fun c => c.gone
def goneI (L : List CR) : Int := if goneN L < L.length then (goneN L : Int) else -1
theorem goneI_at {L : List CR} {k : Nat} (hk : k < L.length) (h : L[k].gone = true) (hall : ∀ j (hj : j < L.length), j < k → L[j].gone = false) : goneI L = (k : Int) ∧ goneN L = k := by
  have e : goneN L = k := by
    unfold goneN
    rw [List.findIdx_eq hk]
    exact ⟨h, fun j hj => hall j (by omega) hj⟩
  unfold goneI
  rw [e, if_pos hk]
  exact ⟨rfl, rfl⟩
theorem goneI_none {L : List CR} (hall : ∀ j (hj : j < L.length), L[j].gone = false) : goneI L = -1 := by
  have e : goneN L = L.length := by
    unfold goneN
    rw [List.findIdx_eq_length]
    intro x hx
    obtain ⟨i, hi, rfl⟩ := List.mem_iff_getElem.1 hx
    exact hall i hi
  unfold goneI
  rw [e, if_neg (Nat.lt_irrefl _)]
def IGRel (L : List CR) (w : World) (i : Value) (wr : World) : Prop :=
  ∃ k : Nat, k ≤ L.length ∧ i = .int .i64 (k : Int) ∧ Gr w wr ∧ ∀ j (hj : j < L.length), j < k → L[j].gone = false
set_option maxRecDepth 100000 in
set_option maxHeartbeats 1000000 in
theorem indexGone_any (v : Value) (L : List CR) (B : Nat) (w : World) (hv : CO w B v L) :
    Calls Tryz.prog 155 #[v, .func (.func 127) #[] #[]] w fun e w' => e = .returned (.int .i64 (goneI L)) ∧ Gr w w' := by
  obtain ⟨A, c, hva, hnc, hc63⟩ := own_form hv
  subst hva
  have HV := Lib.hid hv
  obtain ⟨n, hn⟩ : ∃ n, n = L.length := ⟨_, rfl⟩
  rw [← hn] at HV hnc ⊢
  have HN := Lib.hid hn
  clear hv hn
  go_enter Tryz.func155, Tryz.ntmps155
  go_wp2_with fail
  go_loopw [8] (fun i wr => IGRel L w i wr) (fun i _ => n - (intOf i).toNat)
  case atStart => exact ⟨0, Nat.zero_le _, rfl, Gr.refl _, fun j _ h => absurd h (Nat.not_lt_zero _)⟩
  case round =>
    obtain ⟨k, hk, rfl, hgr, hall⟩ := hrel
    rw [← HN.out] at hk
    have HAL := Lib.hid hall
    clear hall
    by_cases hlt : k < n
    · have hkM : k < L.length := by rw [← HN.out]; exact hlt
      obtain ⟨g, cc, hvv⟩ := HV.out.addr hkM
      injection hvv with h1 h2 h3
      subst h1 h3
      clear h2
      obtain ⟨q0, q1, q2⟩ := HV.out.at_ hkM
      have c0 := hgr.cell q0
      have c1' := hgr.cell q1
      have c2 := hgr.cell q2
      obtain ⟨f, hf⟩ : ∃ f, f = L[k] := ⟨_, rfl⟩
      rw [← hf] at c0 c1' c2
      have HF := Lib.hid hf
      have HC := Lib.hid (isGone_any f wr)
      rcases hq : f.gone with _ | _
      · rw [hq] at HC c2
        have HA2 : Hid (∀ j (hj : j < L.length), j < k + 1 → L[j].gone = false) := Lib.hid fun j hj hjk => by
          by_cases e : j = k
          · subst e; rw [← HF.out]; exact hq
          · exact HAL.out j hj (by omega)
        clear hq hf q0 q1 q2
        go_wp2_with fail
        refine HC.out.mono ?_
        rintro e w1 ⟨rfl, g1⟩
        go_wp2_with fail
        go_roundw
        case rel => exact ⟨k + 1, by rw [← HN.out]; omega, by go_num, hgr.trans g1, HA2.out⟩
        case measure => simp [intOf]; omega
      · rw [hq] at HC c2
        have HI := Lib.hid (goneI_at hkM (by rw [← HF.out]; exact hq) HAL.out).1
        clear hq hf q0 q1 q2
        go_wp2_with fail
        refine HC.out.mono ?_
        rintro e w1 ⟨rfl, g1⟩
        go_wp2_with fail
        go_ret
        exact ⟨by rw [HI.out]; rfl, hgr.trans g1⟩
    · have HI := Lib.hid (goneI_none (L := L) (fun j hj => HAL.out j hj (by rw [← HN.out] at hj; omega)))
      go_wp2_with fail
      go_ret
      exact ⟨by rw [HI.out]; rfl, hgr⟩
theorem elemCh : Tryz.prog.underlying 27 = some (.slice (Tryz.prog.elem 27)) := by kernel_rfl
theorem sizeCh : ∀ W : World, (sizeOf (Tryz.prog.elem 27)).run Tryz.prog W = .ok 3 W := fun W => by
  rw [show Tryz.prog.elem 27 = 70 by kernel_rfl]
  exact Tryz.sizeOf70 W
def zerosC (k : Nat) : List Value := (Builtin.zeroCells (Value.agg #[.string ⟨#[]⟩, .string ⟨#[]⟩, .bool false]).cells k).toList
theorem zerosC_len (k : Nat) : (zerosC k).length = k * 3 := by
  unfold zerosC
  simp [Builtin.zeroCells, Value.cells]
theorem zerosC_one (k : Nat) : ∀ v ∈ zerosC k, v.oneCell' = true := by
  intro v hv
  unfold zerosC Builtin.zeroCells at hv
  simp only [Value.cells, Array.toList_map, List.mem_map, Array.mem_toList_iff, Array.mem_range] at hv
  obtain ⟨i, _, rfl⟩ := hv
  have h3 : i % 3 < 3 := Nat.mod_lt _ (by decide)
  show Value.oneCell' ((#[Value.string ⟨#[]⟩, Value.string ⟨#[]⟩, Value.bool false] : Array Value)[i % 3]!) = true
  obtain h | h | h : i % 3 = 0 ∨ i % 3 = 1 ∨ i % 3 = 2 := by omega
  all_goals rw [h]; rfl
/-- The clearing of what lies behind a row's beginning. -/
theorem run_clear_changes (w : World) (g off k cc : Nat) (hk : 0 < k) (hc : ∀ j, j < k * 3 → (w.cell? ⟨g, off + j, none⟩).isSome = true) (hf : ∀ j, j < k * 3 → w.frozen? ⟨g, off + j, none⟩ = false) (ty : TypeId) :
    (Builtin.clear_ #[27] ty #[.slice (some ⟨g, off, none⟩) k cc]).run Tryz.prog w = .ok (.tuple #[]) (w.setCells g off (zerosC k)) := by
  obtain ⟨i0, hi, hz0, hz1, hz2⟩ := info_parts infoChange
  have hst := run_storeCells_cells (P := Tryz.prog) g off (zerosC k) 0 w
    (fun j hj => by rw [Nat.add_zero]; exact hc j (by rw [← zerosC_len]; exact hj))
    (fun j hj => by rw [Nat.add_zero]; exact hf j (by rw [← zerosC_len]; exact hj))
    (zerosC_one k)
  simp only [Nat.add_zero] at hst
  have hzv : ∀ w, (zeroValue 70).run Tryz.prog w = .ok (.agg #[.string ⟨#[]⟩, .string ⟨#[]⟩, .bool false]) w := fun w => by
    simp [zeroValue, typeInfo, hi, hz0]
  have hu : (underlying 27).run Tryz.prog w = .ok (.slice 70) w := run_underlying Tryz.underlying27 w
  obtain ⟨k', rfl⟩ : ∃ k', k = k' + 1 := ⟨k - 1, by omega⟩
  unfold zerosC at hst ⊢
  simp [Builtin.clear_, hu, hzv, hst]
theorem own_beyonds {B : Nat} {t : TypeId} {size g n c : Nat} {xs : List Value} : ∀ (l : List Value) (off : Nat) {w : World}, w.ownsRow B t size (.slice (some ⟨g, 0, none⟩) n c) n xs → n * size ≤ off → (w.setCells g off l).ownsRow B t size (.slice (some ⟨g, 0, none⟩) n c) n xs ∧ Kp (some g) w (w.setCells g off l)
  | [], off, w, h, _ => ⟨h, Kp.refl _ _⟩
  | v :: l, off, w, h, ho => by
    have h1 := own_beyond h ho v
    obtain ⟨h2, k2⟩ := own_beyonds l (off + 1) h1 (by omega)
    exact ⟨h2, Kp.trans (Kp.set (Kp.refl _ _) (.inr rfl) _ _) k2⟩
/-- A call's answer: the changes that take no key away, in the same block. -/
def RetLeft (L : List CR) (B : Nat) (v : Value) (w : World) (e : Ending) (w' : World) : Prop := ∃ v', e = .returned v' ∧ CO w' B v' (L.filter fun c => !c.gone) ∧ v'.ownBlock = v.ownBlock ∧ Kp v.ownBlock w w'
structure DFInv (L : List CR) (w : World) (B g c i j : Nat) (D : List CR) (wr : World) : Prop where
  row : CO wr B (.slice (some ⟨g, 0, none⟩) L.length c) D
  len : D.length = L.length
  lo : D.take i = (L.take j).filter fun c => !c.gone
  hi : ∀ m (h : m < L.length), j ≤ m → D[m]'(by rw [len]; exact h) = L[m]
  lt : i < j
  kp : Kp (some g) w wr
theorem DFInv.start {L : List CR} {w wr : World} {B g c k : Nat} (hk : k < L.length) (hg : L[k].gone = true) (hall : ∀ j (hj : j < L.length), j < k → L[j].gone = false) (hv : CO w B (.slice (some ⟨g, 0, none⟩) L.length c) L) (q : Gr w wr) : DFInv L w B g c k (k + 1) L wr := by
  refine ⟨hv.gr q, rfl, ?_, fun m h _ => rfl, Nat.lt_succ_self _, Kp.of_gr q⟩
  rw [List.take_succ_eq_append_getElem hk, List.filter_append]
  have e1 : (L.take k).filter (fun c => !c.gone) = L.take k := by
    rw [List.filter_eq_self]
    intro x hx
    obtain ⟨i, hi, rfl⟩ := List.mem_iff_getElem.1 hx
    have hi2 : i < k := by simp at hi; omega
    rw [List.getElem_take]
    rw [hall i (by omega) hi2]
    rfl
  rw [e1]
  simp [hg]
theorem DFInv.skip {L : List CR} {w wr w' : World} {B g c i j : Nat} {D : List CR} (h : DFInv L w B g c i j D wr) (q : Gr wr w') (hj : j < L.length) (hg : L[j].gone = true) : DFInv L w B g c i (j + 1) D w' := by
  refine ⟨h.row.gr q, h.len, ?_, fun m hm hjm => h.hi m hm (by omega), by have := h.lt; omega, h.kp.gr q⟩
  rw [h.lo, List.take_succ_eq_append_getElem hj, List.filter_append]
  simp [hg]
theorem DFInv.keep {L : List CR} {w wr w' : World} {B g c i j : Nat} {D : List CR} (h : DFInv L w B g c i j D wr) (q : Gr wr w') (hj : j < L.length) (hg : L[j].gone = false) :
    DFInv L w B g c (i + 1) (j + 1) (D.set i L[j]) (((w'.setCell ⟨g, i * 3, none⟩ (.string L[j].key)).setCell ⟨g, i * 3 + 1, none⟩ (.string L[j].val)).setCell ⟨g, i * 3 + 2, none⟩ (.bool L[j].gone)) := by
  have hlt := h.lt
  have hiD : i < D.length := by rw [h.len]; omega
  refine ⟨(h.row.gr q).put3 hiD L[j], by rw [List.length_set]; exact h.len, ?_, fun m hm hjm => ?_, by omega, ((((h.kp.gr q).set (.inr rfl) _ _).set (.inr rfl) _ _).set (.inr rfl) _ _)⟩
  · rw [List.take_succ_eq_append_getElem (by rw [List.length_set]; exact hiD), List.getElem_set_self, List.take_set_of_le (Nat.le_refl _), h.lo, List.take_succ_eq_append_getElem hj, List.filter_append]
    simp [hg]
  · rw [List.getElem_set_ne (by omega)]
    exact h.hi m hm (by omega)
theorem filter_none {L : List CR} (hall : ∀ j (hj : j < L.length), L[j].gone = false) : L.filter (fun c => !c.gone) = L := by
  rw [List.filter_eq_self]
  intro x hx
  obtain ⟨i, hi, rfl⟩ := List.mem_iff_getElem.1 hx
  rw [hall i hi]
  rfl
set_option maxRecDepth 100000 in
set_option maxHeartbeats 4000000 in
theorem delGone_any (v : Value) (L : List CR) (B : Nat) (w : World) (hv : CO w B v L) :
    Calls Tryz.prog 126 #[v, .func (.func 127) #[] #[]] w fun e w' => RetLeft L B v w e w' := by
  have H1 := Lib.hid (indexGone_any v L B w hv)
  have HV := Lib.hid hv
  obtain ⟨A, c, rfl, hnc, hc63⟩ := own_form hv
  by_cases hall : ∀ j (hj : j < L.length), L[j].gone = false
  · rw [goneI_none hall] at H1
    have HF := Lib.hid (filter_none hall)
    obtain ⟨n, hn⟩ : ∃ n, n = L.length := ⟨_, rfl⟩
    rw [← hn] at H1 HV ⊢
    clear hv hall hn hnc
    go_enter Tryz.func126, Tryz.ntmps126
    go_wp2_with fail
    refine H1.out.mono ?_
    rintro e w1 ⟨rfl, g1⟩
    have HG1 := Lib.hid g1
    clear g1
    go_wp2_with fail
    go_ret
    exact ⟨_, rfl, by rw [HF.out]; exact HV.out.gr HG1.out, rfl, Kp.of_gr HG1.out⟩
  · have hex : ∃ k, ∃ hk : k < L.length, L[k].gone = true ∧ ∀ j (hj : j < L.length), j < k → L[j].gone = false := by
      have hlt : goneN L < L.length := by
        rcases Nat.lt_or_ge (goneN L) L.length with h | h
        · exact h
        · exfalso
          apply hall
          intro j hj
          have := List.not_of_lt_findIdx (p := fun c : CR => c.gone) (xs := L) (i := j) (by unfold goneN at h; omega)
          simpa using this
      refine ⟨goneN L, hlt, List.findIdx_getElem (p := fun c : CR => c.gone) (w := hlt), fun j hj hjk => ?_⟩
      have := List.not_of_lt_findIdx (p := fun c : CR => c.gone) (xs := L) (i := j) hjk
      simpa using this
    obtain ⟨k, hk, hgk, hbe⟩ := hex
    rw [(goneI_at hk hgk hbe).1] at H1
    obtain ⟨g, c', hvv⟩ := hv.addr hk
    injection hvv with h1 h2 h3
    subst h1 h3
    clear h2
    obtain ⟨n, hn⟩ : ∃ n, n = L.length := ⟨_, rfl⟩
    have HN := Lib.hid hn
    have HB := Lib.hid (fun wr (q : Gr w wr) => DFInv.start (B := B) (g := g) (c := c) hk hgk hbe HV.out q)
    have hkn : k < n := by rw [hn]; exact hk
    have hne : ((k : Int) == -1) = false := by rw [beq_eq_false_iff_ne]; omega
    have hne2 : ¬ ((k : Int) = -1) := by omega
    have hc1 : n ≤ c := by rw [hn]; exact hnc
    rw [← hn] at H1 ⊢
    have hwk : IntKind.i64.wrap ((k : Int) + 1) = ((k + 1 : Nat) : Int) := by
      rw [IntKind.wrap_i64]
      omega
    clear hv hall hbe hgk hn hk hnc HV
    go_enter Tryz.func126, Tryz.ntmps126
    go_wp2_with fail
    refine H1.out.mono ?_
    rintro e w1 ⟨rfl, g1⟩
    have HS := Lib.hid (HB.out _ g1)
    clear g1 HB H1
    go_wp2_with fail
    clear hwk
    go_loopg [5, 6, 7] n (fun gg s5 s6 _ wr => ∃ (i j : Nat) (D : List CR), s5 = .int .i64 (i : Int) ∧ s6 = .int .i64 (j : Int) ∧ j ≤ n ∧ n - j ≤ gg ∧ Hid (DFInv L w B g c i j D wr))
    case atStart => exact ⟨k, k + 1, L, rfl, by go_num, by omega, by omega, HS⟩
    case round =>
      obtain ⟨i, j, D, rfl, rfl, hjn, hgg, HD⟩ := hrel
      have hij := HD.out.lt
      by_cases hlt : j < n
      · have hjL : j < L.length := by rw [← HN.out]; exact hlt
        have hjD : j < D.length := by rw [HD.out.len]; exact hjL
        obtain ⟨q0, q1, q2⟩ := HD.out.row.at_ hjD
        rw [HD.out.hi j hjL (Nat.le_refl _)] at q0 q1 q2
        obtain ⟨f, hf⟩ : ∃ f, f = L[j] := ⟨_, rfl⟩
        rw [← hf] at q0 q1 q2
        have HF := Lib.hid hf
        obtain ⟨W, hW⟩ : ∃ W, W = wr.alloc (.cells #[.string f.key, .string f.val, .bool f.gone] 70) := ⟨_, rfl⟩
        have HC := Lib.hid (isGone_any f W)
        have HGW : Hid (Gr wr W) := Lib.hid (by rw [hW]; exact gr_box _ _)
        have HX : Hid (W.heap[wr.heap.size]? = some (.cells #[.string f.key, .string f.val, .bool f.gone] 70 (0, 0))) := Lib.hid (by rw [hW]; exact heap_alloc_new wr _)
        have x0 := obj_cell HX.out (i := 0) rfl
        have x1 := obj_cell HX.out (i := 1) rfl
        have x2 := obj_cell HX.out (i := 2) rfl
        have hltz : (j : Int) < (n : Int) := by omega
        have hj0 : (0 : Int) ≤ (j : Int) := by omega
        rcases hq : f.gone with _ | _
        · have HQ := Lib.hid hq
          have HK := Lib.hid (fun w' (q : Gr wr w') => HD.out.keep q hjL (by rw [← HF.out]; exact hq))
          rw [← HF.out] at HK
          have HC2 : Hid (Calls Tryz.prog 127 #[.agg #[.string f.key, .string f.val, .bool f.gone]] W fun e w' => e = .returned (.bool false) ∧ Gr W w') := Lib.hid (HC.out.mono fun e w' h => ⟨by rw [h.1, hq], h.2⟩)
          have hi0 : (0 : Int) ≤ (i : Int) := by omega
          have hin : (i : Int) < (n : Int) := by omega
          have hiD : i < D.length := by rw [HD.out.len]; omega
          clear hf hq
          go_wp2_with fail
          rw [← hW]
          clear hW q0 q1 q2
          refine HC2.out.mono ?_
          rintro e w2 ⟨rfl, g2⟩
          have hg2 := HGW.out.trans g2
          have y0 := g2.cell x0
          have y1 := g2.cell x1
          have y2 := g2.cell x2
          have hrow2 := HD.out.row.gr hg2
          obtain ⟨r0, r1, r2⟩ := hrow2.at_ hiD
          have f0 := hrow2.free (i * 3)
          have f1 := hrow2.free (i * 3 + 1)
          have f2 := hrow2.free (i * 3 + 2)
          have HN2 := Lib.hid (HK.out w2 hg2)
          have hwi : IntKind.i64.wrap ((i : Int) + 1) = ((i + 1 : Nat) : Int) := by
            rw [IntKind.wrap_i64]
            omega
          clear x0 x1 x2 g2 hg2 hrow2 HX HGW HK HC HC2
          go_wp2_with fail
          go_roundg (n - (j + 1))
          case measure => omega
          case rel => exact ⟨i + 1, j + 1, _, by go_num, by go_num, by omega, Nat.le_refl _, HN2⟩
        · have HK := Lib.hid (fun w' (q : Gr wr w') => HD.out.skip q hjL (by rw [← HF.out]; exact hq))
          have HC2 : Hid (Calls Tryz.prog 127 #[.agg #[.string f.key, .string f.val, .bool f.gone]] W fun e w' => e = .returned (.bool true) ∧ Gr W w') := Lib.hid (HC.out.mono fun e w' h => ⟨by rw [h.1, hq], h.2⟩)
          clear hf hq
          go_wp2_with fail
          rw [← hW]
          clear hW q0 q1 q2
          refine HC2.out.mono ?_
          rintro e w2 ⟨rfl, g2⟩
          have HN2 := Lib.hid (HK.out w2 (HGW.out.trans g2))
          clear x0 x1 x2 g2 HX HGW HK HC HC2
          go_wp2_with fail
          go_roundg (n - (j + 1))
          case measure => omega
          case rel => exact ⟨i, j + 1, _, rfl, by go_num, by omega, Nat.le_refl _, HN2⟩
      · obtain rfl : j = n := by omega
        have hltz : ¬ ((j : Int) < (j : Int)) := by omega
        have hfin : (L.filter fun c => !c.gone) = D.take i := by
          rw [HD.out.lo, List.take_of_length_le (by rw [← HN.out]; exact Nat.le_refl _)]
        have HFIN := Lib.hid hfin
        have hsf := slice_from_g 27 3 elemCh sizeCh j c i (by omega) (some ⟨g, 0, none⟩)
        have hst := slice_to_g 27 3 elemCh sizeCh j c i (by omega) (some ⟨g, 0, none⟩)
        have hsd : sliced (some ⟨g, 0, none⟩) i j c 3 = .slice (some ⟨g, i * 3, none⟩) (j - i) (c - i) := by
          unfold sliced
          rw [if_neg (by omega)]
          simp [Addr.add]
          try omega
        rw [hsd] at hsf
        have hrow : wr.ownsRow B 70 3 (.slice (some ⟨g, 0, none⟩) j c) j (ccells D) := by
          have h := HD.out.row
          unfold CO at h
          rw [HD.out.len, ← HN.out] at h
          exact h
        have hpre : CO wr B (.slice (some ⟨g, 0, none⟩) i c) (D.take i) := by
          have h := own_prefix (k := i) hrow (by omega)
          unfold CO
          rw [List.length_take, Nat.min_eq_left (by rw [HD.out.len, ← HN.out]; omega)]
          unfold ccells at h ⊢
          rw [rows_take ccell 3 ccell_len] at h
          exact h
        have hpre' := hpre
        unfold CO at hpre'
        rw [List.length_take, Nat.min_eq_left (by rw [HD.out.len, ← HN.out]; omega)] at hpre'
        have hcl := run_clear_changes wr g (i * 3) (j - i) (c - i) (by omega) (fun m hm => by
          obtain ⟨⟨u, hu⟩, _⟩ := own_some hrow (j := i * 3 + m) (by omega)
          rw [hu]; rfl) (fun m hm => (own_some hrow (j := i * 3 + m) (by omega)).2)
        have hbey := own_beyonds (zerosC (j - i)) (i * 3) hpre' (Nat.le_refl _)
        obtain ⟨W, hW⟩ : ∃ W, W = wr.setCells g (i * 3) (zerosC (j - i)) := ⟨_, rfl⟩
        rw [← hW] at hcl hbey
        have HBE : Hid (CO W B (.slice (some ⟨g, 0, none⟩) i c) (D.take i)) := Lib.hid (by unfold CO; rw [List.length_take, Nat.min_eq_left (by rw [HD.out.len, ← HN.out]; omega)]; exact hbey.1)
        have HKP := Lib.hid (HD.out.kp.trans hbey.2)
        have hcl0 := hcl 0
        clear hW hbey hpre hpre' hrow hfin hsd
        go_wp2_with fail
        go_ret
        exact ⟨_, rfl, by rw [HFIN.out]; exact HBE.out, rfl, HKP.out⟩
end Go.Proofs.YtlnhbndghnkfmaaGreatDoor
