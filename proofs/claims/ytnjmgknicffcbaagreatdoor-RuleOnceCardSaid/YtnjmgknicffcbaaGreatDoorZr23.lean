/- Walks: seenWithin. The map of what is seen: an own map from strings to vectors; its look-up, its store. Regions that read, call, make boxes and store into them, in any order: one invariant for all of them. -/
import Derived.Test.YtnjmgknicffcbaaGreatDoorZr22
import Derived.Test.YtnjmgknicffcbaaGreatDoorZr20
import Derived.Maps.OwnOps
import Derived.Maps.Views
import Derived.Test.YtnjmgknicffcbaaGreatDoorZr14
import Derived.Test.YtnjmgknicffcbaaGreatDoorZr12
namespace Go.Proofs.YtnjmgknicffcbaaGreatDoor
open Go.RowKit Go.Joins
set_option linter.unusedSimpArgs false
set_option linter.unusedVariables false

theorem boxesSw (db dk di : Nat) (k : Int) (w : World) : ∃ W, W = (w.alloc (.cells #[.pointer (some ⟨db, dk, none⟩), .int .i64 (di : Int)] 225)).alloc (.cells #[.int .i64 k] 3) ∧ Gr w W ∧ W.heap.size = w.heap.size + 2 ∧
    W.cell? ⟨w.heap.size, 0, none⟩ = some (.pointer (some ⟨db, dk, none⟩)) ∧ W.cell? ⟨w.heap.size, 1, none⟩ = some (.int .i64 (di : Int)) ∧ W.cell? ⟨w.heap.size + 1, 0, none⟩ = some (.int .i64 k) := by
  have h1 : ((w.alloc (.cells #[.pointer (some ⟨db, dk, none⟩), .int .i64 (di : Int)] 225)).alloc (.cells #[.int .i64 k] 3)).heap[w.heap.size]? = some (.cells #[.pointer (some ⟨db, dk, none⟩), .int .i64 (di : Int)] 225 (0, 0)) := by simp only [World.alloc, Array.getElem?_push, Array.size_push]; simp
  have h2 : ((w.alloc (.cells #[.pointer (some ⟨db, dk, none⟩), .int .i64 (di : Int)] 225)).alloc (.cells #[.int .i64 k] 3)).heap[w.heap.size + 1]? = some (.cells #[.int .i64 k] 3 (0, 0)) := by simp only [World.alloc, Array.getElem?_push, Array.size_push]; simp
  exact ⟨_, rfl, ((Gr.refl w).alloc _).alloc _, by simp, by rw [cell_of_block h1]; rfl, by rw [cell_of_block h1]; rfl, by rw [cell_of_block h2]; rfl⟩
set_option maxRecDepth 100000 in
set_option maxHeartbeats 4000000 in
theorem within_any (d : DD) (k : Int) (w : World) (h : DX w d) :
    Calls Tryz.prog 207 #[.agg #[.pointer (some ⟨d.b, d.o, none⟩), .int .i64 (d.i : Int)], .int .i64 k] w fun e w' => e = .returned (.bool (withinD k d)) ∧ Gr w w' := by
  obtain ⟨q, hq⟩ : ∃ q, q = withinD k d := ⟨_, rfl⟩
  rw [← hq]
  have HQ := Lib.hid hq
  have HDX := Lib.hid h
  have HDO := Lib.hid (fun w1 (g : Gr w w1) => dop_any d w1 (h.gr g))
  obtain ⟨o, ho⟩ : ∃ o, o = d.op := ⟨_, rfl⟩
  rw [← ho] at HDO
  obtain ⟨⟨v, hv, hfx⟩, hi⟩ := h
  have HV := Lib.hid hv
  have HFX := Lib.hid hfx
  obtain ⟨A, c, hvf, hnc, ⟨hcm, -⟩, -⟩ := hv
  subst hvf
  obtain ⟨db, hdb⟩ : ∃ x, x = d.b := ⟨_, rfl⟩
  obtain ⟨dk, hdk⟩ : ∃ x, x = d.o := ⟨_, rfl⟩
  obtain ⟨di, hdi⟩ : ∃ x, x = d.i := ⟨_, rfl⟩
  obtain ⟨n, hn⟩ : ∃ x, x = d.t.ops.length := ⟨_, rfl⟩
  obtain ⟨t, ht⟩ : ∃ x, x = d.t := ⟨_, rfl⟩
  rw [← hn, ← ht] at HV HFX
  rw [← hn] at hnc
  rw [← hdb, ← hdk] at HFX
  have hin : di < n := by rw [hdi, hn]; exact hi
  rw [← hdb, ← hdk, ← hdi] at HDO ⊢
  have HQ2 : Hid (q = ((t.ops.drop (di + 1)).any fun p => seesB k p o)) := Lib.hid (by rw [hq, ht, hdi, ho]; rfl)
  obtain ⟨W, hW, hg, hsz, a0, a1, b0⟩ := boxesSw db dk di k w
  have HG := Lib.hid hg
  have HA := Lib.hid (And.intro a0 (And.intro a1 b0))
  have HSW := Lib.hid hsz
  have HVS := Lib.hid (fun w1 (g : Gr w w1) => (show TOV w1 (.slice (if c = di + 1 then A else A.map (fun x => x.add ((di + 1) * 4))) (n - (di + 1)) (c - (di + 1))) (t.ops.drop (di + 1)) from TOV.drop (TOV.gr HV.out g) (by omega)))
  have hdi0 : (0 : Int) ≤ (di : Int) := Int.natCast_nonneg _
  have hdi1 : (0 : Int) ≤ (di : Int) + 1 := by omega
  have hdn : (di : Int) + 1 ≤ (n : Int) := by omega
  have hc63 : c ≤ 9223372036854775807 := by unfold maxLen at hcm; omega
  have hwd : IntKind.i64.wrap ((di : Int) + 1) = ((di + 1 : Nat) : Int) := by rw [IntKind.wrap_i64]; omega
  have hwd2 : wrap64 ((di : Int) + 1) = ((di + 1 : Nat) : Int) := by unfold wrap64; omega
  clear hq hfx hi hnc hcm hdb hdk hdi hn ht ho hg hsz a0 a1 b0 HQ HDX HV
  go_enter Tryz.func207, Tryz.ntmps207
  go_upto_region 1 with (fail)
  rw [← hW]
  clear hW
  obtain ⟨a0, a1, b0⟩ := HA.out
  go_wp2_with fail
  refine (HDO.out _ HG.out).mono ?_
  rintro e w1 ⟨rfl, g1⟩
  have HG1 := Lib.hid (HG.out.trans g1)
  have HA1 : Hid (w1.cell? ⟨w.heap.size, 0, none⟩ = some (.pointer (some ⟨db, dk, none⟩)) ∧ w1.cell? ⟨w.heap.size, 1, none⟩ = some (.int .i64 (di : Int)) ∧ w1.cell? ⟨w.heap.size + 1, 0, none⟩ = some (.int .i64 k)) := Lib.hid ⟨g1.cell a0, g1.cell a1, g1.cell b0⟩
  clear g1 a0 a1 b0 HA HG
  have hz : (w1.alloc (.cells (opv ⟨0, ⟨#[]⟩, ⟨#[]⟩, 0⟩) 52)).heap[w1.heap.size]? = some (.cells (opv ⟨0, ⟨#[]⟩, ⟨#[]⟩, 0⟩) 52 (0, 0)) := heap_alloc _ _ _
  have z0 : (w1.alloc (.cells (opv ⟨0, ⟨#[]⟩, ⟨#[]⟩, 0⟩) 52)).cell? ⟨w1.heap.size, 0, none⟩ = some (.int .i64 0) := by rw [cell_of_block hz]; rfl
  have z1 : (w1.alloc (.cells (opv ⟨0, ⟨#[]⟩, ⟨#[]⟩, 0⟩) 52)).cell? ⟨w1.heap.size, 1, none⟩ = some (.string ⟨#[]⟩) := by rw [cell_of_block hz]; rfl
  have z2 : (w1.alloc (.cells (opv ⟨0, ⟨#[]⟩, ⟨#[]⟩, 0⟩) 52)).cell? ⟨w1.heap.size, 2, none⟩ = some (.string ⟨#[]⟩) := by rw [cell_of_block hz]; rfl
  have z3 : (w1.alloc (.cells (opv ⟨0, ⟨#[]⟩, ⟨#[]⟩, 0⟩) 52)).cell? ⟨w1.heap.size, 3, none⟩ = some (.int .i64 0) := by rw [cell_of_block hz]; rfl
  have k0 := unfrozen_of_block hz 0
  have k1 := unfrozen_of_block hz 1
  have k2 := unfrozen_of_block hz 2
  have k3 := unfrozen_of_block hz 3
  go_upto_region 2 with (fail)
  clear z0 z1 z2 z3 k0 k1 k2 k3 hz
  obtain ⟨w2, hw2, hg2, ho2⟩ := opbox w1 o
  change Code.wp Tryz.prog _ _ _ (w1.alloc (.cells (opv o) 52))
  rw [← hw2]
  clear hw2
  have HG2 := Lib.hid (HG1.out.trans hg2)
  have HA2 : Hid (w2.cell? ⟨w.heap.size, 0, none⟩ = some (.pointer (some ⟨db, dk, none⟩)) ∧ w2.cell? ⟨w.heap.size, 1, none⟩ = some (.int .i64 (di : Int)) ∧ w2.cell? ⟨w.heap.size + 1, 0, none⟩ = some (.int .i64 k)) := Lib.hid ⟨hg2.cell HA1.out.1, hg2.cell HA1.out.2.1, hg2.cell HA1.out.2.2⟩
  have HO2 := Lib.hid ho2
  have HF2 := Lib.hid (HFX.out.gr HG2.out)
  have HCN := Lib.hid (fun w3 (g : Gr w2 w3) (x0 : w3.cell? ⟨w.heap.size + 1, 0, none⟩ = some (.int .i64 k)) => containsW_any (.slice (if c = di + 1 then A else A.map (fun x => x.add ((di + 1) * 4))) (n - (di + 1)) (c - (di + 1))) (t.ops.drop (di + 1)) o k (w.heap.size + 1) w1.heap.size w3 (HVS.out w3 (HG2.out.trans g)) x0 (TCell.gr HO2.out g))
  rw [← HQ2.out] at HCN
  have hmf : ∀ (fn : Fn) (first cap : Array Value) (w : World), (Instr.makeFunc fn first cap).run Tryz.prog w = .ok (.func fn first cap) w := fun _ _ _ _ => rfl
  clear hg2 ho2 HA1 HG1 HFX HVS
  refine qRegion (fun w' => w'.cell? ⟨w.heap.size, 0, none⟩ = some (.pointer (some ⟨db, dk, none⟩)) ∧ w'.cell? ⟨w.heap.size, 1, none⟩ = some (.int .i64 (di : Int)) ∧ w'.cell? ⟨w.heap.size + 1, 0, none⟩ = some (.int .i64 k) ∧ XFix w' db dk t (.slice A n c) ∧ Gr w2 w') (by kernel_rfl) (by kernel_rfl) ⟨(Gr.refl _).drew.cell HA2.out.1, (Gr.refl _).drew.cell HA2.out.2.1, (Gr.refl _).drew.cell HA2.out.2.2, HF2.out.gr (Gr.refl _).drew, (Gr.refl _).drew⟩ ?_
  iterate 10
    refine qTake (by kernel_rfl) ?_
    apply Exists.intro
    refine ⟨fun wq hq => ?_, ?_⟩
    · go_light
      obtain ⟨a0, a1, b0, ⟨x0, x1, x2, x3, x4, x5, x6, x7, x8, x9, x10, x11⟩, -⟩ := hq
      go_simp
      try with_reducible rfl
      done
    try simp only [Act.put, List.setIfInBounds_toArray, List.set_cons_zero, List.set_cons_succ]
  refine qCall (by kernel_rfl) ?_
  apply Exists.intro
  refine ⟨?_, ?_⟩
  · apply Exists.intro
    apply Exists.intro
    refine ⟨fun wq => ?_, fun wq hq => ?_⟩
    · go_light
      go_simp
      exact ⟨rfl, rfl⟩
    · exact (HCN.out wq hq.2.2.2.2 hq.2.2.1).mono fun e w'' ⟨he, hg⟩ => ⟨he, hg.cell hq.1, hg.cell hq.2.1, hg.cell hq.2.2.1, hq.2.2.2.1.gr hg, hq.2.2.2.2.trans hg⟩
  try simp only [Act.put, List.setIfInBounds_toArray, List.set_cons_zero, List.set_cons_succ]
  iterate 1
    refine qTake (by kernel_rfl) ?_
    apply Exists.intro
    refine ⟨fun wq hq => ?_, ?_⟩
    · go_light
      obtain ⟨a0, a1, b0, ⟨x0, x1, x2, x3, x4, x5, x6, x7, x8, x9, x10, x11⟩, -⟩ := hq
      go_simp
      try with_reducible rfl
      done
    try simp only [Act.put, List.setIfInBounds_toArray, List.set_cons_zero, List.set_cons_succ]
  refine qNil ?_
  rintro w3 ⟨-, -, -, -, hg3⟩
  have HG3 := Lib.hid (HG2.out.trans hg3)
  clear hg3
  go_wp2_with fail
  all_goals go_ret
  all_goals exact ⟨rfl, HG3.out⟩
end Go.Proofs.YtnjmgknicffcbaaGreatDoor
namespace Go.Proofs.YtnjmgknicffcbaaGreatDoor
open Go.RowKit Go.Joins Go.Maps
set_option linter.unusedSimpArgs false
set_option linter.unusedVariables false

def encV (f : Nat → Nat) : DataW Unit := .agg [.lit (.int .u64 (f 0 : Int)), .lit (.int .u64 (f 1 : Int)), .lit (.int .u64 (f 2 : Int)), .lit (.int .u64 (f 3 : Int)), .lit (.int .u64 (f 4 : Int)), .lit (.int .u64 (f 5 : Int)), .lit (.int .u64 (f 6 : Int)), .lit (.int .u64 (f 7 : Int))]
theorem encV_iff {f g : Nat → Nat} : encV f = encV g ↔ vcells f = vcells g := by
  unfold encV vcells
  simp only [DataW.agg.injEq, List.cons.injEq, DataW.lit.injEq, Lit.int.injEq, true_and, and_true, Array.mk.injEq, Value.int.injEq]
open Classical in
/-- How a vector as an element reads. -/
noncomputable def rdV (v : Value) : Option (DataW Unit × List MemPlace) := if h : ∃ f : Nat → Nat, v = .agg (vcells f) then some (encV (Classical.choose h), []) else none
theorem rdV_v (f : Nat → Nat) : rdV (.agg (vcells f)) = some (encV f, []) := by
  unfold rdV
  have h : ∃ g : Nat → Nat, Value.agg (vcells f) = .agg (vcells g) := ⟨f, rfl⟩
  rw [dif_pos h]
  have e := Classical.choose_spec h
  injection e with e
  rw [encV_iff.2 e.symm]
theorem rdV_inv {v : Value} {f : Nat → Nat} {ps : List MemPlace} (h : rdV v = some (encV f, ps)) : v = .agg (vcells f) := by
  unfold rdV at h
  by_cases q : ∃ g : Nat → Nat, v = .agg (vcells g)
  · rw [dif_pos q] at h
    injection h with h
    injection h with h _
    rw [← encV_iff.1 h]
    exact Classical.choose_spec q
  · rw [dif_neg q] at h
    cases h
theorem keyStr : Keyed Tryz.prog 9 := string_keyed Tryz.underlying9
theorem zeroSeers (w : World) : (zeroValue 234).run Tryz.prog w = .ok (.agg (vcells fun _ => 0)) w := by kernel_rfl
/-- Block b is a map of at most n entries that tells F. -/
def SeenM (w : World) (b n : Nat) (F : ByteArray → Nat → Nat) : Prop :=
  ∃ D : DataW Unit, w.ownsMap Tryz.prog 9 rdV b n D ∧ IsMap D ∧ ∀ s : ByteArray, D.atKey (.string s.data.toList) (encV fun _ => 0) = encV (F s)
theorem SeenM.made (w : World) : SeenM (w.alloc (.map #[] 0)) w.heap.size 0 (fun _ _ => 0) := ⟨.map [], World.ownsMap_made _ _ _ _, ⟨[], rfl⟩, fun _ => rfl⟩
theorem SeenM.kept {w w' : World} {b n : Nat} {F : ByteArray → Nat → Nat} {row : Option Nat} (h : SeenM w b n F) (hg : w.grownBy w' row) (hne : some b ≠ row) : SeenM w' b n F := by
  obtain ⟨D, h1, h2, h3⟩ := h
  exact ⟨D, h1.kept hg hne, h2, h3⟩
theorem SeenM.gr {w w' : World} {b n : Nat} {F : ByteArray → Nat → Nat} (h : SeenM w b n F) (g : Gr w w') : SeenM w' b n F := h.kept (Kp.of_gr (r := none) g) (by simp)
theorem SeenM.lookup {w : World} {b n : Nat} {F : ByteArray → Nat → Nat} (h : SeenM w b n F) (s : ByteArray) (hs : s.size ≤ maxLen) :
    (Instr.lookup 231 (.map (some b)) (.string s) false).run Tryz.prog w = .ok (.agg (vcells (F s))) w := by
  obtain ⟨D, h1, h2, h3⟩ := h
  obtain ⟨v, ps, hrun, hv⟩ := h1.lookup keyStr Tryz.underlying231 (zeroSeers w) (rdV_v _) (WideMaps.keyOf_string_mk Tryz.underlying9 hs)
  rw [h3 s] at hv
  rw [hrun, rdV_inv hv]
theorem SeenM.put {w' : World} {b n : Nat} {F : ByteArray → Nat → Nat} {D : DataW Unit} {s : ByteArray} {f : Nat → Nat} (h2 : IsMap D) (h3 : ∀ s : ByteArray, D.atKey (.string s.data.toList) (encV fun _ => 0) = encV (F s)) (h : w'.ownsMap Tryz.prog 9 rdV b n (D.put (.string s.data.toList) (encV f))) :
    SeenM w' b n (fun x => if x = s then f else F x) := by
  refine ⟨_, h, ?_, fun x => ?_⟩
  · obtain ⟨es, rfl⟩ := h2
    exact ⟨_, rfl⟩
  · by_cases e : x = s
    · subst e
      rw [atKey_put_same h2 (show WideAt.IsKeyLit (.string x.data.toList) from trivial)]
      show _ = encV (if x = x then f else F x)
      rw [if_pos rfl]
    · have hne : (Lit.string x.data.toList) ≠ .string s.data.toList := fun q => e (by
        injection q with q
        exact ByteArray.ext (Array.ext' q))
      rw [atKey_put_other hne, h3]
      show _ = encV (if x = s then f else F x)
      rw [if_neg e]
/-- A store, in the walk. -/
theorem wpList_seen {w : World} {ops : Array Oper} {rest : List Oper} {o : Oper} {a : Act} {Q : Exit → Act → World → Prop} (hg : o.guard = none) (m x v : Operand) (hop : o.op = Op.mapUpdate 231 m x v)
    (b n : Nat) (F : ByteArray → Nat → Nat) (hm : a.eval m = .map (some b)) (h : SeenM w b n F) (hn : n < maxLen) (s : ByteArray) (hs : s.size ≤ maxLen) (f : Nat → Nat) (hx : a.eval x = .string s) (hv : a.eval v = .agg (vcells f))
    (hK : ∀ w', SeenM w' b (n + 1) (fun y => if y = s then f else F y) → w.grownBy w' (some b) → wpList Tryz.prog ops Q rest (a.put o.dst undef) w') :
    wpList Tryz.prog ops Q (o :: rest) a w := by
  obtain ⟨D, h1, h2, h3⟩ := h
  exact wpList_mapUpdate_own w hg m x v 231 hop 9 234 keyStr Tryz.underlying231 rdV b n D hm h1 hn _ _ _ hx hv (WideMaps.keyOf_string_mk Tryz.underlying9 hs) (encV f) [] (rdV_v f) fun w' r1 r2 => hK w' (SeenM.put h2 h3 r1) r2
end Go.Proofs.YtnjmgknicffcbaaGreatDoor
namespace Go.Proofs.YtnjmgknicffcbaaGreatDoor
open Go.RowKit Go.Joins

/-- All blocks of which the type is not a box's type stay as they are. -/
def Keeps (bt : TypeId → Bool) (w w' : World) : Prop := ∀ (b : Nat) (cs : Array Value) (t : TypeId) (fr : Nat × Nat), bt t = false → w.heap[b]? = some (.cells cs t fr) → w'.heap[b]? = some (.cells cs t fr)
theorem Keeps.refl (bt : TypeId → Bool) (w : World) : Keeps bt w w := fun _ _ _ _ _ h => h
theorem Keeps.trans {bt : TypeId → Bool} {a b c : World} (h : Keeps bt a b) (k : Keeps bt b c) : Keeps bt a c := fun i cs t fr ht hb => k i cs t fr ht (h i cs t fr ht hb)
theorem Keeps.of_gr {bt : TypeId → Bool} {a b : World} (g : Gr a b) : Keeps bt a b := fun i cs t fr _ hb => by
  rw [g.block i (Array.getElem?_eq_some_iff.1 hb).1]
  exact hb
theorem own_keeps {bt : TypeId → Bool} {w w' : World} {B size n : Nat} {t : TypeId} {v : Value} {xs : List Value} (h : w.ownsRow B t size v n xs) (ht : bt t = false) (k : Keeps bt w w') : w'.ownsRow B t size v n xs := by
  refine ⟨h.1, ?_⟩
  rcases h.2 with h0 | ⟨g, cap, cur, hv, hb, hg, hr⟩
  · exact .inl h0
  · exact .inr ⟨g, cap, cur, hv, hb, k g cur t (0, 0) ht hg, hr⟩
/-- The cells that a stored value fills. -/
def storeCells : Value → Array Value
  | .agg c => c
  | v => #[v]
theorem putCells_far : ∀ (cs : List Value) (o : Nat) (w : World) (P b : Nat), b ≠ P → (putCells w P o cs).heap[b]? = w.heap[b]?
  | [], _, _, _, _, _ => rfl
  | x :: r, o, w, P, b, h => by
    show (putCells (w.setCell ⟨P, o, none⟩ x) P (o + 1) r).heap[b]? = _
    rw [putCells_far r (o + 1) _ P b h]
    exact Go.Deep.blk_setCell_other _ _ _ _ h
theorem putCells_at : ∀ (cs : List Value) (o : Nat) (w : World) (P : Nat) (z : List Value) (t : TypeId) (fr : Nat × Nat), w.heap[P]? = some (.cells z.toArray t fr) → (putCells w P o cs).heap[P]? = some (.cells (setFrom z o cs).toArray t fr)
  | [], _, _, _, _, _, _, h => h
  | x :: r, o, w, P, z, t, fr, h => by
    show (putCells (w.setCell ⟨P, o, none⟩ x) P (o + 1) r).heap[P]? = _
    refine putCells_at r (o + 1) _ P (z.set o x) t fr ?_
    rw [block_setCell h x]
    simp
theorem setFrom_all (xs cs : List Value) (h : cs.length = xs.length) : setFrom xs 0 cs = cs := by
  refine List.ext_getElem? fun j => ?_
  rw [setFrom_at cs xs 0 j (by omega)]
  by_cases hj : j < cs.length
  · rw [if_pos ⟨Nat.zero_le _, by omega⟩]; rfl
  · rw [if_neg (by omega), List.getElem?_eq_none (by omega), List.getElem?_eq_none (by omega)]
theorem putCells_full {w : World} {P : Nat} {z c : Array Value} {t : TypeId} {fr : Nat × Nat} (h : w.heap[P]? = some (.cells z t fr)) (hs : c.size = z.size) : (putCells w P 0 c.toList).heap[P]? = some (.cells c t fr) := by
  rw [putCells_at c.toList 0 w P z.toList t fr h, setFrom_all _ _ (by simpa using hs)]
theorem putCells_keeps {bt : TypeId → Bool} {w : World} {P : Nat} {z : Array Value} {t : TypeId} {fr : Nat × Nat} (h : w.heap[P]? = some (.cells z t fr)) (ht : bt t = true) (cs : List Value) (o : Nat) : Keeps bt w (putCells w P o cs) := fun b cs' t' fr' ht' hb => by
  by_cases e : b = P
  · subst e
    rw [h] at hb
    injection hb with hb
    injection hb with _ hb
    rw [hb, ht'] at ht
    cases ht
  · rw [putCells_far cs o w P b e]; exact hb
/-- What a region has left: of the values each its predicate, which keeps when boxes change; of the boxes (alloc, store, source) each its cells. -/
structure RI (bt : TypeId → Bool) (W : World) (Q : Nat → World → Value → Prop) (bl : List (Nat × Nat × Nat)) (ty : Nat → TypeId) (z : Nat → Array Value) (vals : Vals) (w : World) : Prop where
  gr : Gr W w
  st : ∀ k y w1 w2, Q k w1 y → Keeps bt w1 w2 → Q k w2 y
  ok : ∀ k y, vals k = some y → Q k w y
  box : ∀ b ∈ bl, ∀ y, vals b.1 = some y → ∃ P, y = .pointer (some ⟨P, 0, none⟩) ∧ W.heap.size ≤ P ∧ (vals b.2.1 = none → w.heap[P]? = some (.cells (z b.1) (ty b.1) (0, 0))) ∧ (vals b.2.1 ≠ none → ∃ v, vals b.2.2 = some v ∧ w.heap[P]? = some (.cells (storeCells v) (ty b.1) (0, 0)))
  dis : ∀ b ∈ bl, ∀ b' ∈ bl, b.1 ≠ b'.1 → ∀ P, vals b.1 = some (.pointer (some ⟨P, 0, none⟩)) → vals b'.1 ≠ some (.pointer (some ⟨P, 0, none⟩))
  sa : ∀ b ∈ bl, vals b.1 = none → vals b.2.1 = none
section
variable {bt : TypeId → Bool} {W : World} {Q : Nat → World → Value → Prop} {bl : List (Nat × Nat × Nat)} {ty : Nat → TypeId} {z : Nat → Array Value} {vals : Vals} {w : World}
theorem ri_start {W0 : World} (hst : ∀ k y w1 w2, Q k w1 y → Keeps bt w1 w2 → Q k w2 y) (g : Gr W W0) : RI bt W Q bl ty z (fun _ => none) W0.drew :=
  ⟨g.drew, hst, fun _ _ h => (by cases h), fun _ _ _ h => (by cases h), fun _ _ _ _ _ _ h => (by cases h), fun _ _ _ => rfl⟩
theorem RI.next (h : RI bt W Q bl ty z vals w) {w' : World} (g : Gr w w') : RI bt W Q bl ty z vals w' :=
  ⟨h.gr.trans g, h.st, fun k y hy => h.st k y _ _ (h.ok k y hy) (Keeps.of_gr g), fun b hb y hy => by
    obtain ⟨P, q1, q2, q3, q4⟩ := h.box b hb y hy
    exact ⟨P, q1, q2, fun n => gr_obj g (q3 n), fun n => by obtain ⟨v, r1, r2⟩ := q4 n; exact ⟨v, r1, gr_obj g r2⟩⟩, h.dis, h.sa⟩
/-- A value that is no box. -/
theorem RI.val (h : RI bt W Q bl ty z vals w) {k : Nat} {y : Value} (hn : vals k = none) (hk : (bl.all fun b => decide (b.1 ≠ k) && decide (b.2.1 ≠ k)) = true) (hq : Q k w y) : RI bt W Q bl ty z (vals.up k y) w := by
  have hk1 : ∀ b ∈ bl, b.1 ≠ k ∧ b.2.1 ≠ k := fun b hb => by
    have := List.all_eq_true.1 hk b hb
    rw [Bool.and_eq_true, decide_eq_true_eq, decide_eq_true_eq] at this
    exact this
  refine ⟨h.gr, h.st, fun j x hx => ?_, fun b hb x hx => ?_, fun b hb b' hb' hne P hp => ?_, fun b hb hz => ?_⟩
  · by_cases e : j = k
    · subst e
      rw [Vals.up_at] at hx
      injection hx with hx
      rw [← hx]; exact hq
    · rw [Vals.up_ne vals y e] at hx
      exact h.ok j x hx
  · rw [Vals.up_ne vals y (hk1 b hb).1] at hx
    obtain ⟨P, q1, q2, q3, q4⟩ := h.box b hb x hx
    rw [Vals.up_ne vals y (hk1 b hb).2]
    refine ⟨P, q1, q2, q3, fun n => ?_⟩
    obtain ⟨v, r1, r2⟩ := q4 n
    refine ⟨v, ?_, r2⟩
    rw [Vals.up_ne vals y (fun e => by rw [e, hn] at r1; cases r1)]
    exact r1
  · rw [Vals.up_ne vals y (hk1 b hb).1] at hp
    rw [Vals.up_ne vals y (hk1 b' hb').1]
    exact h.dis b hb b' hb' hne P hp
  · rw [Vals.up_ne vals y (hk1 b hb).1] at hz
    rw [Vals.up_ne vals y (hk1 b hb).2]
    exact h.sa b hb hz
/-- A new box. -/
theorem RI.new (h0 : RI bt W Q bl ty z vals w) {k : Nat} (hn : vals k = none) (hk : (bl.all fun b => decide (b.2.1 ≠ k) && decide (b.2.2 ≠ k)) = true) {c : Array Value} {t : TypeId} (hc : z k = c) (ht : ty k = t) (hq : ∀ w1 P, Q k w1 (.pointer (some ⟨P, 0, none⟩))) :
    RI bt W Q bl ty z (vals.up k (.pointer (some ⟨w.heap.size, 0, none⟩))) (w.alloc (.cells c t)) := by
  subst hc ht
  have h := h0.next ((Gr.refl w).alloc (.cells (z k) (ty k)))
  have hk1 : ∀ b ∈ bl, b.2.1 ≠ k ∧ b.2.2 ≠ k := fun b hb => by
    have := List.all_eq_true.1 hk b hb
    rw [Bool.and_eq_true, decide_eq_true_eq, decide_eq_true_eq] at this
    exact this
  have old : ∀ b ∈ bl, ∀ P, vals b.1 = some (.pointer (some ⟨P, 0, none⟩)) → P < w.heap.size := fun b hb P hp => by
    obtain ⟨P', q1, q2, q3, q4⟩ := h0.box b hb _ hp
    injection q1 with q1
    injection q1 with q1
    injection q1 with q1
    subst q1
    by_cases e : vals b.2.1 = none
    · exact (Array.getElem?_eq_some_iff.1 (q3 e)).1
    · obtain ⟨v, _, r⟩ := q4 e
      exact (Array.getElem?_eq_some_iff.1 r).1
  refine ⟨h.gr, h.st, fun j x hx => ?_, fun b hb x hx => ?_, fun b hb b' hb' hne P hp => ?_, fun b hb hz => ?_⟩
  · by_cases e : j = k
    · subst e
      rw [Vals.up_at] at hx
      injection hx with hx
      rw [← hx]; exact hq _ _
    · rw [Vals.up_ne vals _ e] at hx
      exact h.ok j x hx
  · rw [Vals.up_ne vals _ (hk1 b hb).1, Vals.up_ne vals _ (hk1 b hb).2]
    by_cases e : b.1 = k
    · rw [e, Vals.up_at] at hx
      injection hx with hx
      refine ⟨w.heap.size, hx.symm, h0.gr.size, fun _ => ?_, fun n => absurd (h.sa b hb (by rw [e]; exact hn)) n⟩
      rw [e]
      exact heap_alloc w (z k) (ty k)
    · rw [Vals.up_ne vals _ e] at hx
      exact h.box b hb x hx
  · by_cases e : b.1 = k
    · rw [e, Vals.up_at] at hp
      injection hp with hp
      injection hp with hp
      injection hp with hp
      injection hp with hp
      rw [Vals.up_ne vals _ (fun q => hne (by rw [e, q]))]
      intro q
      have := old b' hb' P q
      omega
    · rw [Vals.up_ne vals _ e] at hp
      by_cases e' : b'.1 = k
      · rw [e', Vals.up_at]
        intro q
        injection q with q
        injection q with q
        injection q with q
        injection q with q
        have := old b hb P hp
        omega
      · rw [Vals.up_ne vals _ e']
        exact h.dis b hb b' hb' hne P hp
  · by_cases e : b.1 = k
    · rw [e, Vals.up_at] at hz; cases hz
    · rw [Vals.up_ne vals _ e] at hz
      rw [Vals.up_ne vals _ (hk1 b hb).1]
      exact h.sa b hb hz
/-- A store into a box. -/
theorem RI.put (h : RI bt W Q bl ty z vals w) {a k s P : Nat} {v : Value} (hb : (a, k, s) ∈ bl) (hn : vals k = none) (hk : (bl.all fun b => decide (b.1 ≠ k) && decide (b.2.2 ≠ k) && (decide (b.2.1 ≠ k) || decide (b = (a, k, s)))) = true)
    (hu : (bl.all fun b => decide (b.1 ≠ a) || decide (b = (a, k, s))) = true) (ht : bt (ty a) = true)
    (ha : vals a = some (.pointer (some ⟨P, 0, none⟩))) (hs : vals s = some v) (hz : (storeCells v).size = (z a).size) (hq : ∀ w1, Q k w1 undef) :
    RI bt W Q bl ty z (vals.up k undef) (putCells w P 0 (storeCells v).toList) := by
  have hk1 : ∀ b ∈ bl, b.1 ≠ k ∧ b.2.2 ≠ k ∧ (b.2.1 ≠ k ∨ b = (a, k, s)) := fun b hb => by
    have := List.all_eq_true.1 hk b hb
    rw [Bool.and_eq_true, Bool.and_eq_true, Bool.or_eq_true, decide_eq_true_eq, decide_eq_true_eq, decide_eq_true_eq, decide_eq_true_eq] at this
    exact ⟨this.1.1, this.1.2, this.2⟩
  have hu1 : ∀ b ∈ bl, b.1 ≠ a ∨ b = (a, k, s) := fun b hb => by
    have := List.all_eq_true.1 hu b hb
    rw [Bool.or_eq_true, decide_eq_true_eq, decide_eq_true_eq] at this
    exact this
  obtain ⟨P', q1, q2, q3, q4⟩ := h.box _ hb _ ha
  injection q1 with q1
  injection q1 with q1
  injection q1 with q1
  subst q1
  have hbox := q3 hn
  have kp : Keeps bt w (putCells w P 0 (storeCells v).toList) := putCells_keeps hbox ht _ _
  refine ⟨Gr.putCells q2 _ _ h.gr, h.st, fun j x hx => ?_, fun b hb2 x hx => ?_, fun b hb b' hb' hne P hp => ?_, fun b hb2 hz => ?_⟩
  · by_cases e : j = k
    · subst e
      rw [Vals.up_at] at hx
      injection hx with hx
      rw [← hx]; exact hq _
    · rw [Vals.up_ne vals _ e] at hx
      exact h.st j x _ _ (h.ok j x hx) kp
  · rw [Vals.up_ne vals _ (hk1 b hb2).1] at hx
    rw [Vals.up_ne vals _ (hk1 b hb2).2.1]
    rcases hu1 b hb2 with hne | rfl
    · have hne2 : b.2.1 ≠ k := by
        rcases (hk1 b hb2).2.2 with q | q
        · exact q
        · rw [q] at hne; exact absurd rfl hne
      rw [Vals.up_ne vals _ hne2]
      obtain ⟨R, r1, r2, r3, r4⟩ := h.box b hb2 x hx
      have hRP : R ≠ P := fun e => by
        rw [e] at r1
        rw [r1] at hx
        exact h.dis b hb2 _ hb hne P hx ha
      exact ⟨R, r1, r2, fun n => by rw [putCells_far _ _ _ _ _ hRP]; exact r3 n, fun n => by obtain ⟨u, s1, s2⟩ := r4 n; exact ⟨u, s1, by rw [putCells_far _ _ _ _ _ hRP]; exact s2⟩⟩
    · have hx2 : vals a = some x := hx
      rw [ha] at hx2
      injection hx2 with hx2
      refine ⟨P, hx2.symm, q2, fun n => ?_, fun _ => ⟨v, hs, putCells_full hbox hz⟩⟩
      have n2 : vals.up k undef k = none := n
      rw [Vals.up_at] at n2; cases n2
  · rw [Vals.up_ne vals _ (hk1 b hb).1] at hp
    rw [Vals.up_ne vals _ (hk1 b' hb').1]
    exact h.dis b hb b' hb' hne P hp
  · rw [Vals.up_ne vals _ (hk1 b hb2).1] at hz
    have h1 := h.sa b hb2 hz
    by_cases e : b.2.1 = k
    · rcases (hk1 b hb2).2.2 with q | q
      · exact absurd e q
      · rw [q] at hz
        have hz2 : vals a = none := hz
        rw [ha] at hz2; cases hz2
    · rw [Vals.up_ne vals _ e]; exact h1
theorem RI.putA (h : RI bt W Q bl ty z vals w) {a k s P : Nat} {c : Array Value} (hb : (a, k, s) ∈ bl) (hn : vals k = none) (hk : (bl.all fun b => decide (b.1 ≠ k) && decide (b.2.2 ≠ k) && (decide (b.2.1 ≠ k) || decide (b = (a, k, s)))) = true)
    (hu : (bl.all fun b => decide (b.1 ≠ a) || decide (b = (a, k, s))) = true) (ht : bt (ty a) = true)
    (ha : vals a = some (.pointer (some ⟨P, 0, none⟩))) (hs : vals s = some (.agg c)) (hz : c.size = (z a).size) (hq : ∀ w1, Q k w1 undef) :
    RI bt W Q bl ty z (vals.up k undef) (putCells w P 0 c.toList) := h.put (v := .agg c) hb hn hk hu ht ha hs hz hq
/-- A box that is there, read back. -/
theorem RI.at_new (h : RI bt W Q bl ty z vals w) {a k s : Nat} (hb : (a, k, s) ∈ bl) (hn : vals k = none) {y : Value} (ha : vals a = some y) : ∃ P, y = .pointer (some ⟨P, 0, none⟩) ∧ W.heap.size ≤ P ∧ w.heap[P]? = some (.cells (z a) (ty a) (0, 0)) := by
  obtain ⟨P, q1, q2, q3, _⟩ := h.box _ hb y ha
  exact ⟨P, q1, q2, q3 hn⟩
theorem RI.at_full (h : RI bt W Q bl ty z vals w) {a k s : Nat} (hb : (a, k, s) ∈ bl) {y x v : Value} (hk : vals k = some x) (hs : vals s = some v) (ha : vals a = some y) : ∃ P, y = .pointer (some ⟨P, 0, none⟩) ∧ W.heap.size ≤ P ∧ w.heap[P]? = some (.cells (storeCells v) (ty a) (0, 0)) := by
  obtain ⟨P, q1, q2, _, q4⟩ := h.box _ hb y ha
  obtain ⟨u, r1, r2⟩ := q4 (by show vals k ≠ none; rw [hk]; simp)
  have r1 : vals s = some u := r1
  rw [hs] at r1
  injection r1 with r1
  subst r1
  exact ⟨P, q1, q2, r2⟩
end
end Go.Proofs.YtnjmgknicffcbaaGreatDoor
