/- Walks: slices.IndexFunc and slices.DeleteFunc of stands, by whether a cut counts the stand's transaction. -/
import Derived.Test.YtlgljanofppleaaSdB
import Derived.Test.YtlgljanofppleaaVecC
namespace Go.Proofs.Ytlgljanofppleaa
open Go.RowKit Go.Joins
set_option linter.unusedSimpArgs false
set_option linter.unusedVariables false

/-- Whether the cut counts the stand's transaction. -/
def hsD (cv : Nat → Nat) (d : ST) : Bool := hasB cv d.t.origin d.t.seq
theorem stboxD (w : World) (d : ST) : ∃ W, W = w.alloc (.cells #[.pointer (some ⟨d.b, d.o, none⟩), .int .i64 (d.m : Int), .int .i64 (d.k : Int)] 66) ∧ Gr w W ∧ W.cell? ⟨w.heap.size, 0, none⟩ = some (.pointer (some ⟨d.b, d.o, none⟩)) := by
  refine ⟨_, rfl, (Gr.refl w).alloc _, ?_⟩
  rw [World.cell?_alloc_at _ _ _ _ rfl]; rfl
set_option maxRecDepth 100000 in
set_option maxHeartbeats 2000000 in
theorem hasSt_any (d : ST) (PV : Nat) (cv : Nat → Nat) (w : World) (hx : HC w d.b d.o d.t) (hv : VC w PV cv) :
    Calls Try.prog 50 #[.agg #[.pointer (some ⟨d.b, d.o, none⟩), .int .i64 (d.m : Int), .int .i64 (d.k : Int)], .pointer (some ⟨PV, 0, none⟩)] w fun e w' => e = .returned (.bool (hsD cv d)) ∧ Gr w w' := by
  obtain ⟨W, hW, hg, hc⟩ := stboxD w d
  have HXD := Lib.hid (hx.gr hg)
  have HVD := Lib.hid (hv.gr hg)
  have HCD := Lib.hid hc
  have HG := Lib.hid hg
  have HH := Lib.hid (fun w1 => has_any cv d.t.origin d.t.seq w1)
  obtain ⟨r, hr⟩ : ∃ r, r = hasB cv d.t.origin d.t.seq := ⟨_, rfl⟩
  rw [← hr] at HH
  show Calls _ _ _ _ fun e w' => e = .returned (.bool (hasB cv d.t.origin d.t.seq)) ∧ Gr w w'
  rw [← hr]
  clear hx hv hg hc hr
  go_enter Try.func50, Try.ntmps50
  go_upto_region 1 with (fail)
  rw [← hW]
  clear hW
  refine qRegion (fun w' => w'.cell? ⟨w.heap.size, 0, none⟩ = some (.pointer (some ⟨d.b, d.o, none⟩)) ∧ HC w' d.b d.o d.t ∧ VC w' PV cv ∧ Gr W w') (by kernel_rfl) (by kernel_rfl) ⟨(Gr.refl _).drew.cell HCD.out, HXD.out.gr (Gr.refl _).drew, HVD.out.gr (Gr.refl _).drew, (Gr.refl _).drew⟩ ?_
  iterate 11
    refine qTake (by kernel_rfl) ?_
    apply Exists.intro
    refine ⟨fun wq hq => ?_, ?_⟩
    · go_light
      obtain ⟨c0, ⟨e0, e1, e2⟩, ⟨v0, v1, v2, v3, v4, v5, v6, v7⟩, -⟩ := hq
      go_simp
      try with_reducible rfl
      done
    try simp only [Act.put, List.setIfInBounds_toArray, List.set_cons_zero, List.set_cons_succ]
  refine qCall (by kernel_rfl) ?_
  apply Exists.intro
  refine ⟨?_, ?_⟩
  · apply Exists.intro
    apply Exists.intro
    refine ⟨fun wq => ?_, fun wq hq => ?_⟩
    · go_light
      go_simp
      exact ⟨rfl, rfl⟩
    · exact (HH.out wq).mono fun e w'' ⟨he, hg⟩ => ⟨he, hg.cell hq.1, hq.2.1.gr hg, hq.2.2.1.gr hg, hq.2.2.2.trans hg⟩
  try simp only [Act.put, List.setIfInBounds_toArray, List.set_cons_zero, List.set_cons_succ]
  iterate 1
    refine qTake (by kernel_rfl) ?_
    apply Exists.intro
    refine ⟨fun wq hq => ?_, ?_⟩
    · go_light
      obtain ⟨c0, ⟨e0, e1, e2⟩, ⟨v0, v1, v2, v3, v4, v5, v6, v7⟩, -⟩ := hq
      go_simp
      try with_reducible rfl
      done
    try simp only [Act.put, List.setIfInBounds_toArray, List.set_cons_zero, List.set_cons_succ]
  refine qNil ?_
  rintro w3 ⟨-, -, -, hg3⟩
  have HG3 := Lib.hid (HG.out.trans hg3)
  clear hg3
  go_wp2_with fail
  go_ret
  exact ⟨rfl, HG3.out⟩
/-- Where the first stand stands that the cut counts. -/
def cntN (cv : Nat → Nat) (L : List ST) : Nat := L.findIdx fun c => hsD cv c
def cntI (cv : Nat → Nat) (L : List ST) : Int := if cntN cv L < L.length then (cntN cv L : Int) else -1
theorem cntI_at {cv : Nat → Nat} {L : List ST} {k : Nat} (hk : k < L.length) (h : hsD cv L[k] = true) (hall : ∀ j (hj : j < L.length), j < k → hsD cv L[j] = false) : cntI cv L = (k : Int) ∧ cntN cv L = k := by
  have e : cntN cv L = k := by
    unfold cntN
    rw [List.findIdx_eq hk]
    exact ⟨h, fun j hj => hall j (by omega) hj⟩
  unfold cntI
  rw [e, if_pos hk]
  exact ⟨rfl, rfl⟩
theorem cntI_none {cv : Nat → Nat} {L : List ST} (hall : ∀ j (hj : j < L.length), hsD cv L[j] = false) : cntI cv L = -1 := by
  have e : cntN cv L = L.length := by
    unfold cntN
    rw [List.findIdx_eq_length]
    intro x hx
    obtain ⟨i, hi, rfl⟩ := List.mem_iff_getElem.1 hx
    exact hall i hi
  unfold cntI
  rw [e, if_neg (Nat.lt_irrefl _)]
section
variable {w : World} {B g n c : Nat} {L : List ST}
theorem SDO.len (h : SDO w B (.slice (some ⟨g, 0, none⟩) n c) L) : n = L.length ∧ L.length ≤ c ∧ c ≤ 9223372036854775807 ∧ B ≤ g ∧ g < w.heap.size := by
  rcases h.2 with ⟨hh, _⟩ | ⟨g', cap', cur, hh, hb, hg, hn, hm, _⟩
  · cases hh
  · injection hh with h1 h2 h3
    injection h1 with h1
    injection h1 with h1
    subst h1 h2 h3
    exact ⟨rfl, hn, hm, hb, (Array.getElem?_eq_some_iff.1 hg).1⟩
theorem SDO.free (h : SDO w B (.slice (some ⟨g, 0, none⟩) n c) L) (j : Nat) : w.frozen? ⟨g, j, none⟩ = false := by
  obtain ⟨rfl, _⟩ := h.len
  exact h.frozenAt j
theorem SDO.addr {v : Value} (h : SDO w B v L) {i : Nat} (hi : i < L.length) : ∃ g c, v = .slice (some ⟨g, 0, none⟩) L.length c := by
  obtain ⟨g, c, hv, _⟩ := World.ownsRow.form h (by omega)
  exact ⟨g, c, hv⟩
theorem SDO.store (h : SDO w B (.slice (some ⟨g, 0, none⟩) n c) L) {i r : Nat} (hi : i < L.length) (hr : r < 3) (f : ST) (u : Value) (hf : scell f = (scell L[i]).set r u) :
    SDO (w.setCell ⟨g, i * 3 + r, none⟩ u) B (.slice (some ⟨g, 0, none⟩) n c) (L.set i f) := by
  obtain ⟨rfl, _⟩ := h.len
  obtain ⟨h1, _⟩ := World.ownsRow.stored (h : w.ownsRow B 66 3 (.slice (some ⟨g, 0, none⟩) L.length c) L.length (scells L)) (i * 3 + r) u
  unfold SDO
  rw [List.length_set]
  have : scells (L.set i f) = (scells L).set (i * 3 + r) u := (rows_set scell 3 scell_len L i r hi hr f u hf).symm
  rw [this]
  exact h1
theorem SDO.put3 (h : SDO w B (.slice (some ⟨g, 0, none⟩) n c) L) {i : Nat} (hi : i < L.length) (f : ST) :
    SDO (((w.setCell ⟨g, i * 3, none⟩ (.pointer (some ⟨f.b, f.o, none⟩))).setCell ⟨g, i * 3 + 1, none⟩ (.int .i64 (f.m : Int))).setCell ⟨g, i * 3 + 2, none⟩ (.int .i64 (f.k : Int))) B (.slice (some ⟨g, 0, none⟩) n c) (L.set i f) := by
  have h1 := h.store hi (r := 0) (by decide) ⟨f.b, f.o, f.t, L[i].m, L[i].k⟩ (.pointer (some ⟨f.b, f.o, none⟩)) rfl
  have h2 := h1.store (i := i) (by rw [List.length_set]; exact hi) (r := 1) (by decide) ⟨f.b, f.o, f.t, f.m, L[i].k⟩ (.int .i64 (f.m : Int)) (by rw [List.getElem_set_self]; rfl)
  have h3 := h2.store (i := i) (by rw [List.length_set, List.length_set]; exact hi) (r := 2) (by decide) f (.int .i64 (f.k : Int)) (by rw [List.getElem_set_self]; rfl)
  rw [List.set_set, List.set_set] at h3
  exact h3
theorem SDO.at_ (h : SDO w B (.slice (some ⟨g, 0, none⟩) n c) L) {i : Nat} (hi : i < L.length) : w.cell? ⟨g, i * 3, none⟩ = some (.pointer (some ⟨L[i].b, L[i].o, none⟩)) ∧ w.cell? ⟨g, i * 3 + 1, none⟩ = some (.int .i64 (L[i].m : Int)) ∧ w.cell? ⟨g, i * 3 + 2, none⟩ = some (.int .i64 (L[i].k : Int)) := by
  obtain ⟨A, c', hv, _, _, hc⟩ := h.dv
  obtain ⟨b, off, ha, q0, q1, q2⟩ := hc i hi
  injection hv with e1
  rw [← e1] at ha
  injection ha with ha
  injection ha with a1 a2
  subst a1 a2
  rw [Nat.zero_add] at q0 q1 q2
  exact ⟨q0, q1, q2⟩
end
/-- What the predicate reads, by a world in which only the row's block is another. -/
structure PrD (B PV : Nat) (cv : Nat → Nat) (D : List ST) (w : World) : Prop where
  v : VC w PV cv
  x : ∀ d ∈ D, HC w d.b d.o d.t
  lv : PV < B
  lx : ∀ d ∈ D, d.b < B
theorem PrD.kp {B PV g : Nat} {cv : Nat → Nat} {D : List ST} {w w' : World} (h : PrD B PV cv D w) (k : Kp (some g) w w') (hg : B ≤ g) : PrD B PV cv D w' := by
  have ne : ∀ b, b < B → some b ≠ some g := fun b hb e => by injection e with e; omega
  refine ⟨?_, fun d hd => ?_, h.lv, h.lx⟩
  · obtain ⟨h0, h1, h2, h3, h4, h5, h6, h7⟩ := h.v
    exact ⟨k.cell h0 (ne _ h.lv), k.cell h1 (ne _ h.lv), k.cell h2 (ne _ h.lv), k.cell h3 (ne _ h.lv), k.cell h4 (ne _ h.lv), k.cell h5 (ne _ h.lv), k.cell h6 (ne _ h.lv), k.cell h7 (ne _ h.lv)⟩
  · obtain ⟨h0, h1, h2⟩ := h.x d hd
    exact ⟨k.cell h0 (ne _ (h.lx d hd)), k.cell h1 (ne _ (h.lx d hd)), k.cell h2 (ne _ (h.lx d hd))⟩
theorem PrD.gr {B PV : Nat} {cv : Nat → Nat} {D : List ST} {w w' : World} (h : PrD B PV cv D w) (g : Gr w w') : PrD B PV cv D w' := ⟨h.v.gr g, fun d hd => (h.x d hd).gr g, h.lv, h.lx⟩
def IHRel (cv : Nat → Nat) (L : List ST) (w : World) (i : Value) (wr : World) : Prop :=
  ∃ k : Nat, k ≤ L.length ∧ i = .int .i64 (k : Int) ∧ Gr w wr ∧ ∀ j (hj : j < L.length), j < k → hsD cv L[j] = false
set_option maxRecDepth 100000 in
set_option maxHeartbeats 1000000 in
theorem indexHas_any (v : Value) (L : List ST) (B PV : Nat) (cv : Nat → Nat) (w : World) (hv : SDO w B v L) (hp : PrD B PV cv L w) :
    Calls Try.prog 68 #[v, .func (.func 50) #[] #[.pointer (some ⟨PV, 0, none⟩)]] w fun e w' => e = .returned (.int .i64 (cntI cv L)) ∧ Gr w w' := by
  obtain ⟨A, c, hva, hnc, hc63⟩ := own_form hv
  subst hva
  have HV := Lib.hid hv
  have HP := Lib.hid hp
  obtain ⟨n, hn⟩ : ∃ n, n = L.length := ⟨_, rfl⟩
  rw [← hn] at HV hnc ⊢
  have HN := Lib.hid hn
  clear hv hn hp
  go_enter Try.func68, Try.ntmps68
  go_wp2_with fail
  go_loopw [8] (fun i wr => IHRel cv L w i wr) (fun i _ => n - (intOf i).toNat)
  case atStart => exact ⟨0, Nat.zero_le _, rfl, Gr.refl _, fun j _ h => absurd h (Nat.not_lt_zero _)⟩
  case round =>
    obtain ⟨k, hk, rfl, hgr, hall⟩ := hrel
    rw [← HN.out] at hk
    have HAL := Lib.hid hall
    clear hall
    by_cases hlt : k < n
    · have hkM : k < L.length := by rw [← HN.out]; exact hlt
      obtain ⟨g, cc, hvv⟩ := HV.out.addr hkM
      injection hvv with h1 h2 h3
      subst h1 h3
      clear h2
      obtain ⟨q0, q1, q2⟩ := HV.out.at_ hkM
      have c0 := hgr.cell q0
      have c1' := hgr.cell q1
      have c2 := hgr.cell q2
      obtain ⟨f, hf⟩ : ∃ f, f = L[k] := ⟨_, rfl⟩
      rw [← hf] at c0 c1' c2
      have HF := Lib.hid hf
      have hmem : f ∈ L := by rw [hf]; exact List.getElem_mem hkM
      have HC := Lib.hid (hasSt_any f PV cv wr ((HP.out.x f hmem).gr hgr) (HP.out.v.gr hgr))
      rcases hq : hsD cv f with _ | _
      · rw [hq] at HC
        have HA2 : Hid (∀ j (hj : j < L.length), j < k + 1 → hsD cv L[j] = false) := Lib.hid fun j hj hjk => by
          by_cases e : j = k
          · subst e; rw [← HF.out]; exact hq
          · exact HAL.out j hj (by omega)
        clear hq hf q0 q1 q2 hmem
        go_wp2_with fail
        refine HC.out.mono ?_
        rintro e w1 ⟨rfl, g1⟩
        go_wp2_with fail
        go_roundw
        case rel => exact ⟨k + 1, by rw [← HN.out]; omega, by go_num, hgr.trans g1, HA2.out⟩
        case measure => simp [intOf]; omega
      · rw [hq] at HC
        have HI := Lib.hid (cntI_at hkM (by rw [← HF.out]; exact hq) HAL.out).1
        clear hq hf q0 q1 q2 hmem
        go_wp2_with fail
        refine HC.out.mono ?_
        rintro e w1 ⟨rfl, g1⟩
        go_wp2_with fail
        go_ret
        exact ⟨by rw [HI.out]; rfl, hgr.trans g1⟩
    · have HI := Lib.hid (cntI_none (cv := cv) (L := L) (fun j hj => HAL.out j hj (by rw [← HN.out] at hj; omega)))
      go_wp2_with fail
      go_ret
      exact ⟨by rw [HI.out]; rfl, hgr⟩
theorem elemSt9 : Try.prog.underlying 61 = some (.slice (Try.prog.elem 61)) := by kernel_rfl
theorem sizeSt9 : ∀ W : World, (sizeOf (Try.prog.elem 61)).run Try.prog W = .ok 3 W := fun W => by kernel_rfl
def zerosS (k : Nat) : List Value := (Builtin.zeroCells (Value.agg #[.pointer none, .int .i64 0, .int .i64 0]).cells k).toList
theorem zerosS_len (k : Nat) : (zerosS k).length = k * 3 := by
  unfold zerosS
  simp [Builtin.zeroCells, Value.cells]
theorem zerosS_one (k : Nat) : ∀ v ∈ zerosS k, v.oneCell' = true := by
  intro v hv
  unfold zerosS Builtin.zeroCells at hv
  simp only [Value.cells, Array.toList_map, List.mem_map, Array.mem_toList_iff, Array.mem_range] at hv
  obtain ⟨i, _, rfl⟩ := hv
  have h3 : i % 3 < 3 := Nat.mod_lt _ (by decide)
  show Value.oneCell' ((#[Value.pointer none, Value.int .i64 0, Value.int .i64 0] : Array Value)[i % 3]!) = true
  obtain h | h | h : i % 3 = 0 ∨ i % 3 = 1 ∨ i % 3 = 2 := by omega
  all_goals rw [h]; rfl
/-- The clearing of what lies behind a row's beginning. -/
theorem run_clear_stands (w : World) (g off k cc : Nat) (hk : 0 < k) (hc : ∀ j, j < k * 3 → (w.cell? ⟨g, off + j, none⟩).isSome = true) (hf : ∀ j, j < k * 3 → w.frozen? ⟨g, off + j, none⟩ = false) (ty : TypeId) :
    (Builtin.clear_ #[61] ty #[.slice (some ⟨g, off, none⟩) k cc]).run Try.prog w = .ok (.tuple #[]) (w.setCells g off (zerosS k)) := by
  obtain ⟨i0, hi, hz0, hz1, hz2⟩ := info_parts infoStand
  have hst := run_storeCells_cells (P := Try.prog) g off (zerosS k) 0 w
    (fun j hj => by rw [Nat.add_zero]; exact hc j (by rw [← zerosS_len]; exact hj))
    (fun j hj => by rw [Nat.add_zero]; exact hf j (by rw [← zerosS_len]; exact hj))
    (zerosS_one k)
  simp only [Nat.add_zero] at hst
  have hzv : ∀ w, (zeroValue 66).run Try.prog w = .ok (.agg #[.pointer none, .int .i64 0, .int .i64 0]) w := fun w => by
    simp [zeroValue, typeInfo, hi, hz0]
  have hu : (underlying 61).run Try.prog w = .ok (.slice 66) w := run_underlying Try.underlying61 w
  obtain ⟨k', rfl⟩ : ∃ k', k = k' + 1 := ⟨k - 1, by omega⟩
  unfold zerosS at hst ⊢
  simp [Builtin.clear_, hu, hzv, hst]
theorem own_beyondS {w : World} {B : Nat} {t : TypeId} {size g n c : Nat} {xs : List Value} (h : w.ownsRow B t size (.slice (some ⟨g, 0, none⟩) n c) n xs) {j : Nat} (hj : n * size ≤ j) (u : Value) : (w.setCell ⟨g, j, none⟩ u).ownsRow B t size (.slice (some ⟨g, 0, none⟩) n c) n xs := by
  have h1 := (h.stored j u).1
  rw [List.set_eq_of_length_le (by rw [h.1]; exact hj)] at h1
  exact h1
theorem own_someS {w : World} {B : Nat} {t : TypeId} {size g n c : Nat} {xs : List Value} (h : w.ownsRow B t size (.slice (some ⟨g, 0, none⟩) n c) n xs) {j : Nat} (hj : j < c * size) : (∃ u, w.cell? ⟨g, j, none⟩ = some u) ∧ w.frozen? ⟨g, j, none⟩ = false := by
  refine ⟨?_, h.frozenAt j⟩
  rcases h.2 with ⟨hh, _⟩ | ⟨g', cap', cur, hh, hb, hg, hn, hm, hcs, _⟩
  · cases hh
  · injection hh with h1 h2 h3
    injection h1 with h1
    injection h1 with h1
    subst h1 h3
    rw [cell_of_row w g j cur t (0, 0) hg]
    exact ⟨_, Array.getElem?_eq_getElem (by omega)⟩
theorem own_beyondsS {B : Nat} {t : TypeId} {size g n c : Nat} {xs : List Value} : ∀ (l : List Value) (off : Nat) {w : World}, w.ownsRow B t size (.slice (some ⟨g, 0, none⟩) n c) n xs → n * size ≤ off → (w.setCells g off l).ownsRow B t size (.slice (some ⟨g, 0, none⟩) n c) n xs ∧ Kp (some g) w (w.setCells g off l)
  | [], off, w, h, _ => ⟨h, Kp.refl _ _⟩
  | v :: l, off, w, h, ho => by
    have h1 := own_beyondS h ho v
    obtain ⟨h2, k2⟩ := own_beyondsS l (off + 1) h1 (by omega)
    exact ⟨h2, Kp.trans (Kp.set (Kp.refl _ _) (.inr rfl) _ _) k2⟩
/-- A call's answer: the stands that the cut doesn't count, in the same block. -/
def RetLeftS (cv : Nat → Nat) (L : List ST) (B : Nat) (v : Value) (w : World) (e : Ending) (w' : World) : Prop := ∃ v', e = .returned v' ∧ SDO w' B v' (L.filter fun c => !hsD cv c) ∧ v'.ownBlock = v.ownBlock ∧ Kp v.ownBlock w w'
structure DSInv (cv : Nat → Nat) (L : List ST) (w : World) (B g c i j : Nat) (D : List ST) (wr : World) : Prop where
  row : SDO wr B (.slice (some ⟨g, 0, none⟩) L.length c) D
  len : D.length = L.length
  lo : D.take i = (L.take j).filter fun c => !hsD cv c
  hi : ∀ m (h : m < L.length), j ≤ m → D[m]'(by rw [len]; exact h) = L[m]
  lt : i < j
  kp : Kp (some g) w wr
theorem DSInv.start {cv : Nat → Nat} {L : List ST} {w wr : World} {B g c k : Nat} (hk : k < L.length) (hg : hsD cv L[k] = true) (hall : ∀ j (hj : j < L.length), j < k → hsD cv L[j] = false) (hv : SDO w B (.slice (some ⟨g, 0, none⟩) L.length c) L) (q : Gr w wr) : DSInv cv L w B g c k (k + 1) L wr := by
  refine ⟨hv.gr q, rfl, ?_, fun m h _ => rfl, Nat.lt_succ_self _, Kp.of_gr q⟩
  rw [List.take_succ_eq_append_getElem hk, List.filter_append]
  have e1 : (L.take k).filter (fun c => !hsD cv c) = L.take k := by
    rw [List.filter_eq_self]
    intro x hx
    obtain ⟨i, hi, rfl⟩ := List.mem_iff_getElem.1 hx
    have hi2 : i < k := by simp at hi; omega
    rw [List.getElem_take]
    rw [hall i (by omega) hi2]
    rfl
  rw [e1]
  simp [hg]
theorem DSInv.skip {cv : Nat → Nat} {L : List ST} {w wr w' : World} {B g c i j : Nat} {D : List ST} (h : DSInv cv L w B g c i j D wr) (q : Gr wr w') (hj : j < L.length) (hg : hsD cv L[j] = true) : DSInv cv L w B g c i (j + 1) D w' := by
  refine ⟨h.row.gr q, h.len, ?_, fun m hm hjm => h.hi m hm (by omega), by have := h.lt; omega, h.kp.gr q⟩
  rw [h.lo, List.take_succ_eq_append_getElem hj, List.filter_append]
  simp [hg]
theorem DSInv.keep {cv : Nat → Nat} {L : List ST} {w wr w' : World} {B g c i j : Nat} {D : List ST} (h : DSInv cv L w B g c i j D wr) (q : Gr wr w') (hj : j < L.length) (hg : hsD cv L[j] = false) :
    DSInv cv L w B g c (i + 1) (j + 1) (D.set i L[j]) (((w'.setCell ⟨g, i * 3, none⟩ (.pointer (some ⟨L[j].b, L[j].o, none⟩))).setCell ⟨g, i * 3 + 1, none⟩ (.int .i64 (L[j].m : Int))).setCell ⟨g, i * 3 + 2, none⟩ (.int .i64 (L[j].k : Int))) := by
  have hlt := h.lt
  have hiD : i < D.length := by rw [h.len]; omega
  refine ⟨(h.row.gr q).put3 hiD L[j], by rw [List.length_set]; exact h.len, ?_, fun m hm hjm => ?_, by omega, ((((h.kp.gr q).set (.inr rfl) _ _).set (.inr rfl) _ _).set (.inr rfl) _ _)⟩
  · rw [List.take_succ_eq_append_getElem (by rw [List.length_set]; exact hiD), List.getElem_set_self, List.take_set_of_le (Nat.le_refl _), h.lo, List.take_succ_eq_append_getElem hj, List.filter_append]
    simp [hg]
  · rw [List.getElem_set_ne (by omega)]
    exact h.hi m hm (by omega)
theorem filter_noneS {cv : Nat → Nat} {L : List ST} (hall : ∀ j (hj : j < L.length), hsD cv L[j] = false) : L.filter (fun c => !hsD cv c) = L := by
  rw [List.filter_eq_self]
  intro x hx
  obtain ⟨i, hi, rfl⟩ := List.mem_iff_getElem.1 hx
  rw [hall i hi]
  rfl
set_option maxRecDepth 100000 in
set_option maxHeartbeats 4000000 in
theorem delHas_any (v : Value) (L : List ST) (B PV : Nat) (cv : Nat → Nat) (w : World) (hv : SDO w B v L) (hp : PrD B PV cv L w) :
    Calls Try.prog 49 #[v, .func (.func 50) #[] #[.pointer (some ⟨PV, 0, none⟩)]] w fun e w' => RetLeftS cv L B v w e w' := by
  have H1 := Lib.hid (indexHas_any v L B PV cv w hv hp)
  have HP := Lib.hid hp
  clear hp
  have HV := Lib.hid hv
  obtain ⟨A, c, rfl, hnc, hc63⟩ := own_form hv
  by_cases hall : ∀ j (hj : j < L.length), hsD cv L[j] = false
  · rw [cntI_none hall] at H1
    have HF := Lib.hid (filter_noneS hall)
    obtain ⟨n, hn⟩ : ∃ n, n = L.length := ⟨_, rfl⟩
    rw [← hn] at H1 HV ⊢
    clear hv hall hn hnc
    go_enter Try.func49, Try.ntmps49
    go_wp2_with fail
    refine H1.out.mono ?_
    rintro e w1 ⟨rfl, g1⟩
    have HG1 := Lib.hid g1
    clear g1
    go_wp2_with fail
    go_ret
    exact ⟨_, rfl, by rw [HF.out]; exact HV.out.gr HG1.out, rfl, Kp.of_gr HG1.out⟩
  · have hex : ∃ k, ∃ hk : k < L.length, hsD cv L[k] = true ∧ ∀ j (hj : j < L.length), j < k → hsD cv L[j] = false := by
      have hlt : cntN cv L < L.length := by
        rcases Nat.lt_or_ge (cntN cv L) L.length with h | h
        · exact h
        · exfalso
          apply hall
          intro j hj
          have := List.not_of_lt_findIdx (p := fun c : ST => hsD cv c) (xs := L) (i := j) (by unfold cntN at h; omega)
          simpa using this
      refine ⟨cntN cv L, hlt, List.findIdx_getElem (p := fun c : ST => hsD cv c) (w := hlt), fun j hj hjk => ?_⟩
      have := List.not_of_lt_findIdx (p := fun c : ST => hsD cv c) (xs := L) (i := j) hjk
      simpa using this
    obtain ⟨k, hk, hgk, hbe⟩ := hex
    rw [(cntI_at hk hgk hbe).1] at H1
    obtain ⟨g, c', hvv⟩ := hv.addr hk
    injection hvv with h1 h2 h3
    subst h1 h3
    clear h2
    have HGB : Hid (B ≤ g) := Lib.hid hv.len.2.2.2.1
    obtain ⟨n, hn⟩ : ∃ n, n = L.length := ⟨_, rfl⟩
    have HN := Lib.hid hn
    have HB := Lib.hid (fun wr (q : Gr w wr) => DSInv.start (cv := cv) (B := B) (g := g) (c := c) hk hgk hbe HV.out q)
    have hkn : k < n := by rw [hn]; exact hk
    have hne : ((k : Int) == -1) = false := by rw [beq_eq_false_iff_ne]; omega
    have hne2 : ¬ ((k : Int) = -1) := by omega
    have hc1 : n ≤ c := by rw [hn]; exact hnc
    rw [← hn] at H1 ⊢
    have hwk : IntKind.i64.wrap ((k : Int) + 1) = ((k + 1 : Nat) : Int) := by
      rw [IntKind.wrap_i64]
      omega
    clear hv hall hbe hgk hn hk hnc HV
    go_enter Try.func49, Try.ntmps49
    go_wp2_with fail
    refine H1.out.mono ?_
    rintro e w1 ⟨rfl, g1⟩
    have HS := Lib.hid (HB.out _ g1)
    clear g1 HB H1
    go_wp2_with fail
    clear hwk
    go_loopg [5, 6, 7] n (fun gg s5 s6 _ wr => ∃ (i j : Nat) (D : List ST), s5 = .int .i64 (i : Int) ∧ s6 = .int .i64 (j : Int) ∧ j ≤ n ∧ n - j ≤ gg ∧ Hid (DSInv cv L w B g c i j D wr))
    case atStart => exact ⟨k, k + 1, L, rfl, by go_num, by omega, by omega, HS⟩
    case round =>
      obtain ⟨i, j, D, rfl, rfl, hjn, hgg, HD⟩ := hrel
      have hij := HD.out.lt
      by_cases hlt : j < n
      · have hjL : j < L.length := by rw [← HN.out]; exact hlt
        have hjD : j < D.length := by rw [HD.out.len]; exact hjL
        obtain ⟨q0, q1, q2⟩ := HD.out.row.at_ hjD
        rw [HD.out.hi j hjL (Nat.le_refl _)] at q0 q1 q2
        obtain ⟨f, hf⟩ : ∃ f, f = L[j] := ⟨_, rfl⟩
        rw [← hf] at q0 q1 q2
        have HF := Lib.hid hf
        obtain ⟨W, hW⟩ : ∃ W, W = wr.alloc (.cells #[.pointer (some ⟨f.b, f.o, none⟩), .int .i64 (f.m : Int), .int .i64 (f.k : Int)] 66) := ⟨_, rfl⟩
        have HGW : Hid (Gr wr W) := Lib.hid (by rw [hW]; exact gr_box _ _)
        have hmem : f ∈ L := by rw [hf]; exact List.getElem_mem hjL
        have hpr := (HP.out.kp HD.out.kp HGB.out).gr HGW.out
        have HC := Lib.hid (hasSt_any f PV cv W (hpr.x f hmem) hpr.v)
        clear hpr hmem
        have HX : Hid (W.heap[wr.heap.size]? = some (.cells #[.pointer (some ⟨f.b, f.o, none⟩), .int .i64 (f.m : Int), .int .i64 (f.k : Int)] 66 (0, 0))) := Lib.hid (by rw [hW]; exact heap_alloc_new wr _)
        have x0 := obj_cell HX.out (i := 0) rfl
        have x1 := obj_cell HX.out (i := 1) rfl
        have x2 := obj_cell HX.out (i := 2) rfl
        have hltz : (j : Int) < (n : Int) := by omega
        have hj0 : (0 : Int) ≤ (j : Int) := by omega
        rcases hq : hsD cv f with _ | _
        · have HQ := Lib.hid hq
          have HK := Lib.hid (fun w' (q : Gr wr w') => HD.out.keep q hjL (by rw [← HF.out]; exact hq))
          rw [← HF.out] at HK
          have HC2 : Hid (Calls Try.prog 50 #[.agg #[.pointer (some ⟨f.b, f.o, none⟩), .int .i64 (f.m : Int), .int .i64 (f.k : Int)], .pointer (some ⟨PV, 0, none⟩)] W fun e w' => e = .returned (.bool false) ∧ Gr W w') := Lib.hid (HC.out.mono fun e w' h => ⟨by rw [h.1, hq], h.2⟩)
          have hi0 : (0 : Int) ≤ (i : Int) := by omega
          have hin : (i : Int) < (n : Int) := by omega
          have hiD : i < D.length := by rw [HD.out.len]; omega
          clear hf hq
          go_wp2_with fail
          rw [← hW]
          clear hW q0 q1 q2
          refine HC2.out.mono ?_
          rintro e w2 ⟨rfl, g2⟩
          have hg2 := HGW.out.trans g2
          have y0 := g2.cell x0
          have y1 := g2.cell x1
          have y2 := g2.cell x2
          have hrow2 := HD.out.row.gr hg2
          obtain ⟨r0, r1, r2⟩ := hrow2.at_ hiD
          have f0 := hrow2.free (i * 3)
          have f1 := hrow2.free (i * 3 + 1)
          have f2 := hrow2.free (i * 3 + 2)
          have HN2 := Lib.hid (HK.out w2 hg2)
          have hwi : IntKind.i64.wrap ((i : Int) + 1) = ((i + 1 : Nat) : Int) := by
            rw [IntKind.wrap_i64]
            omega
          clear x0 x1 x2 g2 hg2 hrow2 HX HGW HK HC HC2
          go_wp2_with fail
          go_roundg (n - (j + 1))
          case measure => omega
          case rel => exact ⟨i + 1, j + 1, _, by go_num, by go_num, by omega, Nat.le_refl _, HN2⟩
        · have HK := Lib.hid (fun w' (q : Gr wr w') => HD.out.skip q hjL (by rw [← HF.out]; exact hq))
          have HC2 : Hid (Calls Try.prog 50 #[.agg #[.pointer (some ⟨f.b, f.o, none⟩), .int .i64 (f.m : Int), .int .i64 (f.k : Int)], .pointer (some ⟨PV, 0, none⟩)] W fun e w' => e = .returned (.bool true) ∧ Gr W w') := Lib.hid (HC.out.mono fun e w' h => ⟨by rw [h.1, hq], h.2⟩)
          clear hf hq
          go_wp2_with fail
          rw [← hW]
          clear hW q0 q1 q2
          refine HC2.out.mono ?_
          rintro e w2 ⟨rfl, g2⟩
          have HN2 := Lib.hid (HK.out w2 (HGW.out.trans g2))
          clear x0 x1 x2 g2 HX HGW HK HC HC2
          go_wp2_with fail
          go_roundg (n - (j + 1))
          case measure => omega
          case rel => exact ⟨i, j + 1, _, rfl, by go_num, by omega, Nat.le_refl _, HN2⟩
      · obtain rfl : j = n := by omega
        have hltz : ¬ ((j : Int) < (j : Int)) := by omega
        have hfin : (L.filter fun c => !hsD cv c) = D.take i := by
          rw [HD.out.lo, List.take_of_length_le (by rw [← HN.out]; exact Nat.le_refl _)]
        have HFIN := Lib.hid hfin
        have hsf := slice_from_g 61 3 elemSt9 sizeSt9 j c i (by omega) (some ⟨g, 0, none⟩)
        have hst := slice_to_g 61 3 elemSt9 sizeSt9 j c i (by omega) (some ⟨g, 0, none⟩)
        have hsd : sliced (some ⟨g, 0, none⟩) i j c 3 = .slice (some ⟨g, i * 3, none⟩) (j - i) (c - i) := by
          unfold sliced
          rw [if_neg (by omega)]
          simp [Addr.add]
          try omega
        rw [hsd] at hsf
        have hrow : wr.ownsRow B 66 3 (.slice (some ⟨g, 0, none⟩) j c) j (scells D) := by
          have h := HD.out.row
          unfold SDO at h
          rw [HD.out.len, ← HN.out] at h
          exact h
        have hpre : SDO wr B (.slice (some ⟨g, 0, none⟩) i c) (D.take i) := by
          have h := own_prefix (k := i) hrow (by omega)
          unfold SDO
          rw [List.length_take, Nat.min_eq_left (by rw [HD.out.len, ← HN.out]; omega)]
          unfold scells at h ⊢
          rw [rows_take scell 3 scell_len] at h
          exact h
        have hpre' := hpre
        unfold SDO at hpre'
        rw [List.length_take, Nat.min_eq_left (by rw [HD.out.len, ← HN.out]; omega)] at hpre'
        have hcl := run_clear_stands wr g (i * 3) (j - i) (c - i) (by omega) (fun m hm => by
          obtain ⟨⟨u, hu⟩, _⟩ := own_someS hrow (j := i * 3 + m) (by omega)
          rw [hu]; rfl) (fun m hm => (own_someS hrow (j := i * 3 + m) (by omega)).2)
        have hbey := own_beyondsS (zerosS (j - i)) (i * 3) hpre' (Nat.le_refl _)
        obtain ⟨W, hW⟩ : ∃ W, W = wr.setCells g (i * 3) (zerosS (j - i)) := ⟨_, rfl⟩
        rw [← hW] at hcl hbey
        have HBE : Hid (SDO W B (.slice (some ⟨g, 0, none⟩) i c) (D.take i)) := Lib.hid (by unfold SDO; rw [List.length_take, Nat.min_eq_left (by rw [HD.out.len, ← HN.out]; omega)]; exact hbey.1)
        have HKP := Lib.hid (HD.out.kp.trans hbey.2)
        have hcl0 := hcl 0
        clear hW hbey hpre hpre' hrow hfin hsd
        go_wp2_with fail
        go_ret
        exact ⟨_, rfl, by rw [HFIN.out]; exact HBE.out, rfl, HKP.out⟩
end Go.Proofs.Ytlgljanofppleaa
