/- Operations of transactions as they are read: a slice of them; when two are equal. Walks over package vec: vectors as functions on the eight members; Leq. When two vectors are equal, as the model's comparison tells. Transactions as they are read; walks: when two are the same: the program's and the document's Same. A region that draws its order, whose operations read cells of a class of worlds and whose calls leave the class: one walk of the text's order. Lists of transactions; walks: slices.EqualFunc, the program's and the document's SameList. -/
import Derived.Test.YtnjmgknicffcbaaGreatDoorZr01
import Derived.BigQuiet
import Derived.Deep.QuietTactic
import Derived.WalkSpells
import Derived.WalkLawsBesides
import Derived.Outline
import Derived.ChangeKeysEq
import Derived.Laws.StructEq
import Derived.Deep.RegionWith
import Derived.Handy
import Derived.Lib.Hide
import Derived.Deep.Light
import Derived.Deep.RegionHeld3
import Derived.WalkKit
import Derived.Deep.DeepCutAuto
namespace Go.Proofs.YtnjmgknicffcbaaGreatDoor
open Go.RowKit

structure TO where
  kind : Int
  key : ByteArray
  elem : ByteArray
  n : Int
/-- The operation o lies at this place. -/
def TCell (w : World) (b off : Nat) (o : TO) : Prop :=
  w.cell? ⟨b, off, none⟩ = some (.int .i64 o.kind) ∧ w.cell? ⟨b, off + 1, none⟩ = some (.string o.key) ∧ w.cell? ⟨b, off + 2, none⟩ = some (.string o.elem) ∧ w.cell? ⟨b, off + 3, none⟩ = some (.int .i64 o.n)
/-- The slice value v reads as the operations. -/
def TOV (w : World) (v : Value) (ops : List TO) : Prop :=
  ∃ A c, v = .slice A ops.length c ∧ ops.length ≤ c ∧ (c ≤ maxLen ∧ (A = Option.none → c = 0)) ∧ ∀ j (hj : j < ops.length), ∃ b off, A = some ⟨b, off, none⟩ ∧ TCell w b (off + j * 4) ops[j]
theorem TCell.gr {w w' : World} {b off : Nat} {o : TO} (h : TCell w b off o) (g : Gr w w') : TCell w' b off o := ⟨g.cell h.1, g.cell h.2.1, g.cell h.2.2.1, g.cell h.2.2.2⟩
theorem TOV.gr {w w' : World} {v : Value} {ops : List TO} (h : TOV w v ops) (g : Gr w w') : TOV w' v ops := by
  obtain ⟨A, c, hv, h1, h2, h3⟩ := h
  refine ⟨A, c, hv, h1, h2, fun j hj => ?_⟩
  obtain ⟨b, off, ha, hc⟩ := h3 j hj
  exact ⟨b, off, ha, hc.gr g⟩
theorem TOV.nil (w : World) : TOV w (.slice none 0 0) [] := ⟨none, 0, rfl, Nat.le_refl _, ⟨Nat.zero_le _, fun _ => rfl⟩, fun j hj => absurd hj (by simp)⟩
theorem tov_form {w : World} {v : Value} {L : List TO} (h : TOV w v L) : ∃ A c, v = .slice A L.length c := by
  obtain ⟨A, c, hv, _⟩ := h
  exact ⟨A, c, hv⟩
def tocell (o : TO) : List Value := [.int .i64 o.kind, .string o.key, .string o.elem, .int .i64 o.n]
theorem tocell_len (o : TO) : (tocell o).length = 4 := rfl
def tocells (ops : List TO) : List Value := ops.flatMap tocell
theorem tocells_len (ops : List TO) : (tocells ops).length = ops.length * 4 := rows_len tocell 4 tocell_len ops
theorem TOV.of_sl {w : World} {v : Value} {ops : List TO} {n : Nat} (h : SL w 4 v n (tocells ops)) : TOV w v ops := by
  obtain ⟨A, c, hv, h1, ⟨h2, h2'⟩, h3, h4⟩ := h
  have hn : ops.length = n := by
    rw [tocells_len] at h3
    omega
  subst hn
  refine ⟨A, c, hv, h1, ⟨h2, h2'⟩, fun j hj => ?_⟩
  have at_ : ∀ r, r < 4 → (tocells ops)[j * 4 + r]? = (tocell ops[j])[r]? := fun r hr => rows_at tocell 4 tocell_len ops j r hj hr
  obtain ⟨b, off, ha, c0⟩ := h4 (j * 4 + 0) _ (at_ 0 (by decide))
  have g : ∀ r u, r < 4 → (tocell ops[j])[r]? = some u → w.cell? ⟨b, off + j * 4 + r, none⟩ = some u := fun r u hr hu => by
    obtain ⟨b', off', ha', c'⟩ := h4 (j * 4 + r) u (by rw [at_ r hr]; exact hu)
    rw [ha] at ha'
    injection ha' with ha'
    injection ha' with e1 e2
    subst e1 e2
    rw [Nat.add_assoc]
    exact c'
  exact ⟨b, off, ha, g 0 _ (by decide) rfl, g 1 _ (by decide) rfl, g 2 _ (by decide) rfl, g 3 _ (by decide) rfl⟩
theorem TOV.sl {w : World} {v : Value} {ops : List TO} (h : TOV w v ops) : SL w 4 v ops.length (tocells ops) := by
  obtain ⟨A, c, hv, h1, h2, h3⟩ := h
  refine ⟨A, c, hv, h1, h2, tocells_len ops, fun j u hj => ?_⟩
  obtain ⟨q, r, hq, hr, rfl, hu⟩ := rows_of tocell 4 tocell_len (by decide) ops j u hj
  obtain ⟨b, off, ha, c0, c1, c2, c3⟩ := h3 q hq
  refine ⟨b, off, ha, ?_⟩
  rw [← Nat.add_assoc]
  match r, hr with
  | 0, _ => injection hu with hu; rw [← hu]; exact c0
  | 1, _ => injection hu with hu; rw [← hu]; exact c1
  | 2, _ => injection hu with hu; rw [← hu]; exact c2
  | 3, _ => injection hu with hu; rw [← hu]; exact c3
theorem infoTOp : (Tryz.prog.info? 52).map (fun i => (i.zero, i.size, i.bytes)) = some (some (.agg #[.int .i64 0, .string ⟨#[]⟩, .string ⟨#[]⟩, .int .i64 0]), 4, 48) := by kernel_rfl
theorem tocells_one (ops : List TO) : ∀ u ∈ tocells ops, u.oneCell' = true := by
  intro u hu
  obtain ⟨o, _, hu⟩ := List.mem_flatMap.1 hu
  unfold tocell at hu
  simp only [List.mem_cons, List.not_mem_nil, or_false] at hu
  rcases hu with rfl | rfl | rfl | rfl <;> rfl
/-- The call owns the slice v from block B on: it reads as these operations. -/
def TOO (w : World) (B : Nat) (v : Value) (ops : List TO) : Prop := w.ownsRow B 52 4 v ops.length (tocells ops)
theorem TOO.gr {w w' : World} {B : Nat} {v : Value} {ops : List TO} (h : TOO w B v ops) (g : Gr w w') : TOO w' B v ops := own_gr h g
theorem TOO.le {w : World} {B B' : Nat} {v : Value} {ops : List TO} (h : TOO w B v ops) (hb : B' ≤ B) : TOO w B' v ops := own_le h hb
theorem TOO.nil (w : World) (B : Nat) : TOO w B (.slice none 0 0) [] := World.ownsRow_nil w B _ _
theorem TOO.tov {w : World} {B : Nat} {v : Value} {ops : List TO} (h : TOO w B v ops) : TOV w v ops := TOV.of_sl (own_sl h)
theorem TOO.form {w : World} {B : Nat} {v : Value} {ops : List TO} (h : TOO w B v ops) : ∃ A c, v = .slice A ops.length c ∧ ops.length ≤ c ∧ c ≤ 9223372036854775807 := own_form h

theorem fieldsTOp : ∃ f0 f1 f2 f3 : Field, Tryz.prog.fieldsOf 52 = #[f0, f1, f2, f3] ∧ (f0.name ≠ "_" ∧ f1.name ≠ "_" ∧ f2.name ≠ "_" ∧ f3.name ≠ "_") ∧ (f0.type = 3 ∧ f1.type = 9 ∧ f2.type = 9 ∧ f3.type = 2) ∧ f0.offset = 0 ∧ f1.offset = 1 ∧ f2.offset = 2 ∧ f3.offset = 3 := by
  refine ⟨(Tryz.prog.fieldsOf 52)[0]'(by decide +kernel), (Tryz.prog.fieldsOf 52)[1]'(by decide +kernel), (Tryz.prog.fieldsOf 52)[2]'(by decide +kernel), (Tryz.prog.fieldsOf 52)[3]'(by decide +kernel), by kernel_rfl, ⟨by decide +kernel, by decide +kernel, by decide +kernel, by decide +kernel⟩, ⟨by kernel_rfl, by kernel_rfl, by kernel_rfl, by kernel_rfl⟩, by kernel_rfl, by kernel_rfl, by kernel_rfl, by kernel_rfl⟩
def tovs (o : TO) : Array Value := #[.int .i64 o.kind, .string o.key, .string o.elem, .int .i64 o.n]
def eqTO (f g : TO) : Bool := (f.kind == g.kind) && (eqS f.key g.key && (eqS f.elem g.elem && (f.n == g.n)))
theorem part_to (o : TO) (w : World) : (part 3 (tovs o) 0).run Tryz.prog w = .ok (.int .i64 o.kind) w ∧ (part 9 (tovs o) 1).run Tryz.prog w = .ok (.string o.key) w ∧ (part 9 (tovs o) 2).run Tryz.prog w = .ok (.string o.elem) w ∧ (part 2 (tovs o) 3).run Tryz.prog w = .ok (.int .i64 o.n) w := by
  refine ⟨?_, ?_, ?_, ?_⟩ <;> (show _ = _; kernel_rfl)
theorem equal_to (f g : TO) (w : World) : (Op.equalIn 10000 52 (.agg (tovs f)) (.agg (tovs g))).run Tryz.prog w = .ok (eqTO f g) w := by
  obtain ⟨f0, f1, f2, f3, hf, ⟨n0, n1, n2, n3⟩, ⟨t0, t1, t2, t3⟩, o0, o1, o2, o3⟩ := fieldsTOp
  obtain ⟨p0, p1, p2, p3⟩ := part_to f w
  obtain ⟨q0, q1, q2, q3⟩ := part_to g w
  rw [run_equalIn_struct w 9999 _ _ _ (by kernel_rfl) (by kernel_rfl), hf]
  simp only [Op.eqFields, n0, n1, n2, n3, t0, t1, t2, t3, o0, o1, o2, o3, if_true, ne_eq, not_false_eq_true, Sem.run_bind, p0, p1, p2, p3, q0, q1, q2, q3, Result.andThen_ok, run_equalIn_string w 9998 9 _ _ Tryz.underlying9, run_equalIn_int w 9998 3 _ _ _ _ Tryz.underlying3, run_equalIn_int w 9998 2 _ _ _ _ Tryz.underlying2, Sem.run_ite, Sem.run_pure]
  unfold eqTO eqS
  cases (f.key.toList == g.key.toList) <;> cases (f.elem.toList == g.elem.toList) <;> by_cases hk : f.kind = g.kind <;> by_cases hn : f.n = g.n <;> simp [hk, hn]

def tsameB : List TO → List TO → Bool
  | [], [] => true
  | f :: a, g :: b => eqTO f g && tsameB a b
  | _, _ => false
end Go.Proofs.YtnjmgknicffcbaaGreatDoor
namespace Go.Proofs.YtnjmgknicffcbaaGreatDoor
open Go.RowKit

/-- The cells of a vector. -/
abbrev vcells (a : Nat → Nat) : Array Value := #[.int .u64 (a 0 : Int), .int .u64 (a 1 : Int), .int .u64 (a 2 : Int), .int .u64 (a 3 : Int), .int .u64 (a 4 : Int), .int .u64 (a 5 : Int), .int .u64 (a 6 : Int), .int .u64 (a 7 : Int)]
theorem vcells_at (a : Nat → Nat) {k : Nat} (hk : k < 8) : (vcells a)[k]? = some (.int .u64 (a k : Int)) := by
  match k, hk with
  | 0, _ => rfl
  | 1, _ => rfl
  | 2, _ => rfl
  | 3, _ => rfl
  | 4, _ => rfl
  | 5, _ => rfl
  | 6, _ => rfl
  | 7, _ => rfl

/-- No number of a up to k is above b's. -/
def leqTo (a b : Nat → Nat) (k : Nat) : Prop := ∀ i, i < k → a i ≤ b i
def leqB (a b : Nat → Nat) : Bool := (List.range 8).all fun i => decide (a i ≤ b i)
theorem leqB_iff {a b : Nat → Nat} : leqB a b = true ↔ leqTo a b 8 := by simp [leqB, leqTo]
theorem leqB_yes {a b : Nat → Nat} (h : leqTo a b 8) : leqB a b = true := leqB_iff.2 h
theorem leqB_no {a b : Nat → Nat} {k : Nat} (hk : k < 8) (h : b k < a k) : leqB a b = false := by
  rw [Bool.eq_false_iff]
  intro q
  have := leqB_iff.1 q k hk
  omega
def LeqRel (a b : Nat → Nat) (w : World) (i : Value) (wr : World) : Prop := ∃ k n : Nat, k ≤ 8 ∧ i = .int .i64 k ∧ leqTo a b k ∧ wr = w.drewN n
/-- The two boxes of a call's two vectors. -/
theorem boxes2 (a b : Nat → Nat) (w : World) : ∃ W, W = (w.alloc (.cells (vcells a) 28)).alloc (.cells (vcells b) 28) ∧ Gr w W ∧
    (∀ k, k < 8 → W.cell? ⟨w.heap.size, k, none⟩ = some (.int .u64 (a k : Int))) ∧ (∀ k, k < 8 → W.cell? ⟨w.heap.size + 1, k, none⟩ = some (.int .u64 (b k : Int))) := by
  refine ⟨_, rfl, (Gr.refl w |>.alloc _ |>.alloc _), fun k hk => ?_, fun k hk => ?_⟩
  · rw [World.cell?_alloc_past _ _ _ (by simp), World.cell?_alloc_at _ _ _ _ rfl]
    exact vcells_at a hk
  · rw [World.cell?_alloc_at _ _ _ _ (by simp)]
    exact vcells_at b hk

set_option maxRecDepth 100000 in
theorem leq_any (a b : Nat → Nat) (w : World) :
    Calls Tryz.prog 96 #[.agg (vcells a), .agg (vcells b)] w fun e w' => e = .returned (.bool (leqB a b)) ∧ Gr w w' := by
  obtain ⟨W, hW, hg, hA, hB⟩ := boxes2 a b w
  have HA := Lib.hid hA
  have HB := Lib.hid hB
  clear hA hB
  go_enter Tryz.func96, Tryz.ntmps96
  go_wp2_with fail
  rw [← hW]
  clear hW
  go_loopw [6] (fun i wr => LeqRel a b W i wr) (fun i _ => 8 - (intOf i).toNat)
  case atStart => exact ⟨0, 0, by decide, rfl, fun i hi => absurd hi (Nat.not_lt_zero i), rfl⟩
  case round =>
    obtain ⟨k, n, hk, rfl, hall, rfl⟩ := hrel
    by_cases hlt : k < 8
    · have hca := HA.out k hlt
      have hcb := HB.out k hlt
      have hk0 : (0 : Int) ≤ (k : Int) := Int.natCast_nonneg _
      have hk8 : (k : Int) < 8 := by omega
      have HALL := Lib.hid hall
      clear hall
      by_cases hab : b k < a k
      · have hd : decide (b k < a k) = true := decide_eq_true hab
        have HR := Lib.hid (leqB_no hlt hab)
        clear hab
        go_wp2_with fail
        go_quiet (fail)
        go_wp2_with fail
        go_ret
        exact ⟨by rw [HR.out]; rfl, (hg.drewN _).drewN _⟩
      · have hd : decide (b k < a k) = false := decide_eq_false hab
        have hall2 : leqTo a b (k + 1) := fun i hi => by
          rcases Nat.lt_or_ge i k with h | h
          · exact HALL.out i h
          · obtain rfl : i = k := by omega
            omega
        have HALL2 := Lib.hid hall2
        clear hab hall2
        go_wp2_with fail
        go_quiet (fail)
        go_wp2_with fail
        go_roundw
        case rel => exact ⟨k + 1, _, by omega, by go_num, HALL2.out, rfl⟩
        case measure => simp [intOf]; omega
    · obtain rfl : k = 8 := by omega
      have HR := Lib.hid (leqB_yes hall)
      clear hall
      go_wp2_with fail
      go_ret
      exact ⟨by rw [HR.out]; rfl, hg.drewN _⟩
set_option maxRecDepth 100000 in
theorem rleq_any (a b : Nat → Nat) (w : World) :
    Calls Tryz.prog 41 #[.agg (vcells a), .agg (vcells b)] w fun e w' => e = .returned (.bool (leqB a b)) ∧ Gr w w' := by
  obtain ⟨W, hW, hg, hA, hB⟩ := boxes2 a b w
  have HA := Lib.hid hA
  have HB := Lib.hid hB
  clear hA hB
  go_enter Tryz.func41, Tryz.ntmps41
  go_wp2_with fail
  rw [← hW]
  clear hW
  go_loopw [5] (fun i wr => LeqRel a b W i wr) (fun i _ => 8 - (intOf i).toNat)
  case atStart => exact ⟨0, 0, by decide, rfl, fun i hi => absurd hi (Nat.not_lt_zero i), rfl⟩
  case round =>
    obtain ⟨k, n, hk, rfl, hall, rfl⟩ := hrel
    by_cases hlt : k < 8
    · have hca := HA.out k hlt
      have hcb := HB.out k hlt
      have hk0 : (0 : Int) ≤ (k : Int) := Int.natCast_nonneg _
      have hk8 : (k : Int) < 8 := by omega
      have HALL := Lib.hid hall
      clear hall
      by_cases hab : b k < a k
      · have hd : decide (b k < a k) = true := decide_eq_true hab
        have HR := Lib.hid (leqB_no hlt hab)
        clear hab
        go_wp2_with fail
        go_quiet (fail)
        go_wp2_with fail
        go_ret
        exact ⟨by rw [HR.out]; rfl, (hg.drewN _).drewN _⟩
      · have hd : decide (b k < a k) = false := decide_eq_false hab
        have hall2 : leqTo a b (k + 1) := fun i hi => by
          rcases Nat.lt_or_ge i k with h | h
          · exact HALL.out i h
          · obtain rfl : i = k := by omega
            omega
        have HALL2 := Lib.hid hall2
        clear hab hall2
        go_wp2_with fail
        go_quiet (fail)
        go_wp2_with fail
        go_roundw
        case rel => exact ⟨k + 1, _, by omega, by go_num, HALL2.out, rfl⟩
        case measure => simp [intOf]; omega
    · obtain rfl : k = 8 := by omega
      have HR := Lib.hid (leqB_yes hall)
      clear hall
      go_wp2_with fail
      go_ret
      exact ⟨by rw [HR.out]; rfl, hg.drewN _⟩
end Go.Proofs.YtnjmgknicffcbaaGreatDoor
namespace Go.Proofs.YtnjmgknicffcbaaGreatDoor
open Go.RowKit

def eqB (f g : Nat → Nat) : Bool := (List.range 8).all fun i => f i == g i
end Go.Proofs.YtnjmgknicffcbaaGreatDoor
namespace Go.Proofs.YtnjmgknicffcbaaGreatDoor
open Go.RowKit

structure TX where
  origin : Int
  seq : Nat
  stamp : Nat
  deps : Nat → Nat
  ops : List TO
/-- The cells of a transaction whose list is the slice v. -/
abbrev tcs (t : TX) (v : Value) : Array Value := #[.int .i64 t.origin, .int .u64 (t.seq : Int), .int .u64 (t.stamp : Int), .int .u64 (t.deps 0 : Int), .int .u64 (t.deps 1 : Int), .int .u64 (t.deps 2 : Int), .int .u64 (t.deps 3 : Int), .int .u64 (t.deps 4 : Int), .int .u64 (t.deps 5 : Int), .int .u64 (t.deps 6 : Int), .int .u64 (t.deps 7 : Int), v]
def sameT (a b : TX) : Bool := (a.origin == b.origin) && (a.seq == b.seq && (a.stamp == b.stamp && (eqB a.deps b.deps && tsameB a.ops b.ops)))
theorem int_bne_t {a b : Int} (h : ¬ a = b) : (a != b) = true := bne_iff_ne.2 h
theorem int_bne_f {a b : Int} (h : a = b) : (a != b) = false := by subst h; simp
theorem int_beq_t {a b : Int} (h : a = b) : (a == b) = true := by subst h; simp
theorem int_beq_f {a b : Int} (h : ¬ a = b) : (a == b) = false := by simpa using h
end Go.Proofs.YtnjmgknicffcbaaGreatDoor
namespace Go.Proofs.YtnjmgknicffcbaaGreatDoor

/-- The walk of the text's order, shut: else each step looks through all that follow. -/
structure QW (P : Program) (ops : Array Oper) (C : World → Prop) (Q : Act → Prop) (l : List Oper) (a : Act) : Prop where
  out : wpQuiet P ops C Q l a

section
variable {P : Program} {ops : Array Oper} {C : World → Prop} {Q : Act → Prop} {o : Oper} {rest : List Oper} {a : Act}
theorem qTake (hw : Region.wanted o (yielded ops a.tmps) = true) (h : ∃ v, (∀ w, C w → (execOp a.eval o).run P w = .ok (.value v) w) ∧ QW P ops C Q rest (a.put o.dst v)) : QW P ops C Q (o :: rest) a := by
  obtain ⟨v, h1, h2⟩ := h
  refine ⟨wpQuiet_step fun K hK => ?_⟩
  rw [if_pos hw]
  refine ⟨v, fun w hC => ?_, hK _ h2.out⟩
  unfold Oper.quietAt
  rw [h1 w hC]
  exact ⟨rfl, rfl⟩
theorem qSkip (hw : Region.wanted o (yielded ops a.tmps) = false) (h : QW P ops C Q rest (a.put o.dst undef)) : QW P ops C Q (o :: rest) a := by
  refine ⟨wpQuiet_step fun K hK => ?_⟩
  rw [if_neg (by rw [hw]; exact Bool.false_ne_true)]
  exact hK _ h.out
theorem qCall (hw : Region.wanted o (yielded ops a.tmps) = true) (h : ∃ v, (∃ f args, (∀ w, (execOp a.eval o).run P w = .ok (.enter f args) w) ∧ ∀ w, C w → Calls P f args w fun e w'' => e = .returned v ∧ C w'') ∧ QW P ops C Q rest (a.put o.dst v)) : QW P ops C Q (o :: rest) a := by
  obtain ⟨v, ⟨f, args, h1, h3⟩, h2⟩ := h
  refine ⟨wpQuiet_step fun K hK => ?_⟩
  rw [if_pos hw]
  refine ⟨v, fun w hC => ?_, hK _ h2.out⟩
  unfold Oper.quietAt
  rw [h1 w]
  exact ⟨rfl, h3 w hC⟩
theorem qNil (h : Q a) : QW P ops C Q [] a := ⟨wpQuiet_nil h⟩
/-- The region, its operations written out. -/
theorem qRegion {id : Nat} {Q : Exit → Act → World → Prop} {a : Act} {w : World} {l : List Oper} (C : World → Prop) (hm : P.follows .mixedOrders = true) (hB : Region.lexB .any l.toArray = true) (hC : C w.drew)
    (h : QW P l.toArray C (fun a' => ∀ w', C w' → Q .normal a' w') l a) : (Code.region id l.toArray true).wp P Q a w :=
  wp_region_quiet (C := C) hm hB hC (by simpa using h.out)
end

section
variable {P : Program} {md : Region.Mode} {ops : Array Oper} {Q : Exit → Act → World → Prop} {S : World → Prop}
/-- A region by hand: an operation that yields its value is taken first. -/
theorem hTake {i : Nat} {oi : Oper} {fuel : Nat} {listed : Array Bool} {a : Act} {w : World} (hi : ops[i]? = some oi)
    (hs : Region.noSelect ops = true) (hf : Region.free md ops listed i = true) (hr : (Region.ready md ops listed).contains i = true)
    (hw : Region.wanted oi (yielded ops a.tmps) = true) (hS : S w)
    (h : ∃ v, (∀ c a w, Q (.panic c) (a.put oi.dst v) w → Q (.panic c) a w) ∧ (∀ w, S w → (execOp a.eval oi).run P w = .ok (.value v) w) ∧ wpAnyH P md ops Q S fuel (listed.setIfInBounds i true) (a.put oi.dst v) w) : wpAnyH P md ops Q S (fuel + 1) listed a w := by
  obtain ⟨v, hQ, hv, h⟩ := h
  exact wpAnyH_take hi hs hf hr hQ (Or.inl ⟨hw, hv⟩) hS h
end
end Go.Proofs.YtnjmgknicffcbaaGreatDoor
namespace Go.Proofs.YtnjmgknicffcbaaGreatDoor
open Go.RowKit

/-- The cells of the transaction t, whose list is the slice v, lie at this place. -/
def XFix (w : World) (b off : Nat) (t : TX) (v : Value) : Prop :=
  w.cell? ⟨b, off, none⟩ = some (.int .i64 t.origin) ∧ w.cell? ⟨b, off + 1, none⟩ = some (.int .u64 (t.seq : Int)) ∧ w.cell? ⟨b, off + 2, none⟩ = some (.int .u64 (t.stamp : Int)) ∧
    w.cell? ⟨b, off + 3, none⟩ = some (.int .u64 (t.deps 0 : Int)) ∧ w.cell? ⟨b, off + 4, none⟩ = some (.int .u64 (t.deps 1 : Int)) ∧ w.cell? ⟨b, off + 5, none⟩ = some (.int .u64 (t.deps 2 : Int)) ∧ w.cell? ⟨b, off + 6, none⟩ = some (.int .u64 (t.deps 3 : Int)) ∧
    w.cell? ⟨b, off + 7, none⟩ = some (.int .u64 (t.deps 4 : Int)) ∧ w.cell? ⟨b, off + 8, none⟩ = some (.int .u64 (t.deps 5 : Int)) ∧ w.cell? ⟨b, off + 9, none⟩ = some (.int .u64 (t.deps 6 : Int)) ∧ w.cell? ⟨b, off + 10, none⟩ = some (.int .u64 (t.deps 7 : Int)) ∧
    w.cell? ⟨b, off + 11, none⟩ = some v
theorem XFix.gr {w w' : World} {b off : Nat} {t : TX} {v : Value} (h : XFix w b off t v) (g : Gr w w') : XFix w' b off t v := by
  obtain ⟨h1, h2, h3, h4, h5, h6, h7, h8, h9, h10, h11, h12⟩ := h
  exact ⟨g.cell h1, g.cell h2, g.cell h3, g.cell h4, g.cell h5, g.cell h6, g.cell h7, g.cell h8, g.cell h9, g.cell h10, g.cell h11, g.cell h12⟩
/-- A new box that holds a transaction. -/
theorem xbox (w : World) (t : TX) (v : Value) : ∃ W, W = w.alloc (.cells (tcs t v) 47) ∧ Gr w W ∧ XFix W w.heap.size 0 t v := by
  refine ⟨_, rfl, (Gr.refl w).alloc _, ?_⟩
  unfold XFix
  refine ⟨?_, ?_, ?_, ?_, ?_, ?_, ?_, ?_, ?_, ?_, ?_, ?_⟩ <;> (rw [World.cell?_alloc_at _ _ _ _ rfl]; rfl)
/-- The transaction t lies at this place. -/
def XCell (w : World) (b off : Nat) (t : TX) : Prop := ∃ v, TOV w v t.ops ∧ XFix w b off t v
theorem XCell.gr {w w' : World} {b off : Nat} {t : TX} (h : XCell w b off t) (g : Gr w w') : XCell w' b off t := by
  obtain ⟨v, h0, h1⟩ := h
  exact ⟨v, h0.gr g, h1.gr g⟩
/-- The slice value v reads as the transactions. -/
def XV (w : World) (v : Value) (L : List TX) : Prop :=
  ∃ A c, v = .slice A L.length c ∧ L.length ≤ c ∧ (c ≤ maxLen ∧ (A = Option.none → c = 0)) ∧ ∀ j (hj : j < L.length), ∃ b off, A = some ⟨b, off, none⟩ ∧ XCell w b (off + j * 12) L[j]
theorem XV.gr {w w' : World} {v : Value} {L : List TX} (h : XV w v L) (g : Gr w w') : XV w' v L := by
  obtain ⟨A, c, hv, h1, h2, h3⟩ := h
  refine ⟨A, c, hv, h1, h2, fun j hj => ?_⟩
  obtain ⟨b, off, ha, hc⟩ := h3 j hj
  exact ⟨b, off, ha, hc.gr g⟩
theorem xv_form {w : World} {v : Value} {L : List TX} (h : XV w v L) : ∃ A c, v = .slice A L.length c := by
  obtain ⟨A, c, hv, _⟩ := h
  exact ⟨A, c, hv⟩
def sameL : List TX → List TX → Bool
  | [], [] => true
  | f :: a, g :: b => sameT f g && sameL a b
  | _, _ => false
end Go.Proofs.YtnjmgknicffcbaaGreatDoor
