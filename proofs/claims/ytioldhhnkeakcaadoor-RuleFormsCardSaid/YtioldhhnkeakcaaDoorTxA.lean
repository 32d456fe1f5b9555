/- Operations of transactions as they are read: a slice of them; when two are equal. -/
import Derived.Test.YtioldhhnkeakcaaDoorBase
import Derived.Test.YtioldhhnkeakcaaDoorStr
import Derived.Test.YtioldhhnkeakcaaDoorSlc
import Derived.Test.YtioldhhnkeakcaaDoorRowsG
import Derived.BigQuiet
import Derived.Deep.QuietTactic
import Derived.WalkSpells
import Derived.WalkLawsBesides
import Derived.Outline
import Derived.ChangeKeysEq
import Derived.Laws.StructEq
namespace Go.Proofs.YtioldhhnkeakcaaDoor
open Go.RowKit

structure TO where
  kind : Int
  key : ByteArray
  elem : ByteArray
  n : Int
/-- The operation o lies at this place. -/
def TCell (w : World) (b off : Nat) (o : TO) : Prop :=
  w.cell? ⟨b, off, none⟩ = some (.int .i64 o.kind) ∧ w.cell? ⟨b, off + 1, none⟩ = some (.string o.key) ∧ w.cell? ⟨b, off + 2, none⟩ = some (.string o.elem) ∧ w.cell? ⟨b, off + 3, none⟩ = some (.int .i64 o.n)
/-- The slice value v reads as the operations. -/
def TOV (w : World) (v : Value) (ops : List TO) : Prop :=
  ∃ A c, v = .slice A ops.length c ∧ ops.length ≤ c ∧ (c ≤ maxLen ∧ (A = Option.none → c = 0)) ∧ ∀ j (hj : j < ops.length), ∃ b off, A = some ⟨b, off, none⟩ ∧ TCell w b (off + j * 4) ops[j]
theorem TCell.gr {w w' : World} {b off : Nat} {o : TO} (h : TCell w b off o) (g : Gr w w') : TCell w' b off o := ⟨g.cell h.1, g.cell h.2.1, g.cell h.2.2.1, g.cell h.2.2.2⟩
theorem TOV.gr {w w' : World} {v : Value} {ops : List TO} (h : TOV w v ops) (g : Gr w w') : TOV w' v ops := by
  obtain ⟨A, c, hv, h1, h2, h3⟩ := h
  refine ⟨A, c, hv, h1, h2, fun j hj => ?_⟩
  obtain ⟨b, off, ha, hc⟩ := h3 j hj
  exact ⟨b, off, ha, hc.gr g⟩
theorem TOV.nil (w : World) : TOV w (.slice none 0 0) [] := ⟨none, 0, rfl, Nat.le_refl _, ⟨Nat.zero_le _, fun _ => rfl⟩, fun j hj => absurd hj (by simp)⟩
theorem tov_form {w : World} {v : Value} {L : List TO} (h : TOV w v L) : ∃ A c, v = .slice A L.length c := by
  obtain ⟨A, c, hv, _⟩ := h
  exact ⟨A, c, hv⟩
def tocell (o : TO) : List Value := [.int .i64 o.kind, .string o.key, .string o.elem, .int .i64 o.n]
theorem tocell_len (o : TO) : (tocell o).length = 4 := rfl
def tocells (ops : List TO) : List Value := ops.flatMap tocell
theorem tocells_len (ops : List TO) : (tocells ops).length = ops.length * 4 := rows_len tocell 4 tocell_len ops
theorem TOV.of_sl {w : World} {v : Value} {ops : List TO} {n : Nat} (h : SL w 4 v n (tocells ops)) : TOV w v ops := by
  obtain ⟨A, c, hv, h1, ⟨h2, h2'⟩, h3, h4⟩ := h
  have hn : ops.length = n := by
    rw [tocells_len] at h3
    omega
  subst hn
  refine ⟨A, c, hv, h1, ⟨h2, h2'⟩, fun j hj => ?_⟩
  have at_ : ∀ r, r < 4 → (tocells ops)[j * 4 + r]? = (tocell ops[j])[r]? := fun r hr => rows_at tocell 4 tocell_len ops j r hj hr
  obtain ⟨b, off, ha, c0⟩ := h4 (j * 4 + 0) _ (at_ 0 (by decide))
  have g : ∀ r u, r < 4 → (tocell ops[j])[r]? = some u → w.cell? ⟨b, off + j * 4 + r, none⟩ = some u := fun r u hr hu => by
    obtain ⟨b', off', ha', c'⟩ := h4 (j * 4 + r) u (by rw [at_ r hr]; exact hu)
    rw [ha] at ha'
    injection ha' with ha'
    injection ha' with e1 e2
    subst e1 e2
    rw [Nat.add_assoc]
    exact c'
  exact ⟨b, off, ha, g 0 _ (by decide) rfl, g 1 _ (by decide) rfl, g 2 _ (by decide) rfl, g 3 _ (by decide) rfl⟩
theorem TOV.sl {w : World} {v : Value} {ops : List TO} (h : TOV w v ops) : SL w 4 v ops.length (tocells ops) := by
  obtain ⟨A, c, hv, h1, h2, h3⟩ := h
  refine ⟨A, c, hv, h1, h2, tocells_len ops, fun j u hj => ?_⟩
  obtain ⟨q, r, hq, hr, rfl, hu⟩ := rows_of tocell 4 tocell_len (by decide) ops j u hj
  obtain ⟨b, off, ha, c0, c1, c2, c3⟩ := h3 q hq
  refine ⟨b, off, ha, ?_⟩
  rw [← Nat.add_assoc]
  match r, hr with
  | 0, _ => injection hu with hu; rw [← hu]; exact c0
  | 1, _ => injection hu with hu; rw [← hu]; exact c1
  | 2, _ => injection hu with hu; rw [← hu]; exact c2
  | 3, _ => injection hu with hu; rw [← hu]; exact c3
theorem infoTOp : (Tryd.prog.info? 30).map (fun i => (i.zero, i.size, i.bytes)) = some (some (.agg #[.int .i64 0, .string ⟨#[]⟩, .string ⟨#[]⟩, .int .i64 0]), 4, 48) := by kernel_rfl
theorem tocells_one (ops : List TO) : ∀ u ∈ tocells ops, u.oneCell' = true := by
  intro u hu
  obtain ⟨o, _, hu⟩ := List.mem_flatMap.1 hu
  unfold tocell at hu
  simp only [List.mem_cons, List.not_mem_nil, or_false] at hu
  rcases hu with rfl | rfl | rfl | rfl <;> rfl
/-- The call owns the slice v from block B on: it reads as these operations. -/
def TOO (w : World) (B : Nat) (v : Value) (ops : List TO) : Prop := w.ownsRow B 30 4 v ops.length (tocells ops)
theorem TOO.gr {w w' : World} {B : Nat} {v : Value} {ops : List TO} (h : TOO w B v ops) (g : Gr w w') : TOO w' B v ops := own_gr h g
theorem TOO.le {w : World} {B B' : Nat} {v : Value} {ops : List TO} (h : TOO w B v ops) (hb : B' ≤ B) : TOO w B' v ops := own_le h hb
theorem TOO.nil (w : World) (B : Nat) : TOO w B (.slice none 0 0) [] := World.ownsRow_nil w B _ _
theorem TOO.tov {w : World} {B : Nat} {v : Value} {ops : List TO} (h : TOO w B v ops) : TOV w v ops := TOV.of_sl (own_sl h)
theorem TOO.form {w : World} {B : Nat} {v : Value} {ops : List TO} (h : TOO w B v ops) : ∃ A c, v = .slice A ops.length c ∧ ops.length ≤ c ∧ c ≤ 9223372036854775807 := own_form h

theorem fieldsTOp : ∃ f0 f1 f2 f3 : Field, Tryd.prog.fieldsOf 30 = #[f0, f1, f2, f3] ∧ (f0.name ≠ "_" ∧ f1.name ≠ "_" ∧ f2.name ≠ "_" ∧ f3.name ≠ "_") ∧ (f0.type = 3 ∧ f1.type = 9 ∧ f2.type = 9 ∧ f3.type = 2) ∧ f0.offset = 0 ∧ f1.offset = 1 ∧ f2.offset = 2 ∧ f3.offset = 3 := by
  refine ⟨(Tryd.prog.fieldsOf 30)[0]'(by decide +kernel), (Tryd.prog.fieldsOf 30)[1]'(by decide +kernel), (Tryd.prog.fieldsOf 30)[2]'(by decide +kernel), (Tryd.prog.fieldsOf 30)[3]'(by decide +kernel), by kernel_rfl, ⟨by decide +kernel, by decide +kernel, by decide +kernel, by decide +kernel⟩, ⟨by kernel_rfl, by kernel_rfl, by kernel_rfl, by kernel_rfl⟩, by kernel_rfl, by kernel_rfl, by kernel_rfl, by kernel_rfl⟩
def tovs (o : TO) : Array Value := #[.int .i64 o.kind, .string o.key, .string o.elem, .int .i64 o.n]
def eqTO (f g : TO) : Bool := (f.kind == g.kind) && (eqS f.key g.key && (eqS f.elem g.elem && (f.n == g.n)))
theorem eqTO_iff {f g : TO} : eqTO f g = true ↔ f = g := by
  unfold eqTO
  rw [Bool.and_eq_true, Bool.and_eq_true, Bool.and_eq_true, eqS_iff, eqS_iff, beq_iff_eq, beq_iff_eq]
  refine ⟨fun ⟨h1, h2, h3, h4⟩ => ?_, fun h => by subst h; exact ⟨rfl, rfl, rfl, rfl⟩⟩
  cases f; cases g
  simp_all
theorem part_to (o : TO) (w : World) : (part 3 (tovs o) 0).run Tryd.prog w = .ok (.int .i64 o.kind) w ∧ (part 9 (tovs o) 1).run Tryd.prog w = .ok (.string o.key) w ∧ (part 9 (tovs o) 2).run Tryd.prog w = .ok (.string o.elem) w ∧ (part 2 (tovs o) 3).run Tryd.prog w = .ok (.int .i64 o.n) w := by
  refine ⟨?_, ?_, ?_, ?_⟩ <;> (show _ = _; kernel_rfl)
theorem equal_to (f g : TO) (w : World) : (Op.equalIn 10000 30 (.agg (tovs f)) (.agg (tovs g))).run Tryd.prog w = .ok (eqTO f g) w := by
  obtain ⟨f0, f1, f2, f3, hf, ⟨n0, n1, n2, n3⟩, ⟨t0, t1, t2, t3⟩, o0, o1, o2, o3⟩ := fieldsTOp
  obtain ⟨p0, p1, p2, p3⟩ := part_to f w
  obtain ⟨q0, q1, q2, q3⟩ := part_to g w
  rw [run_equalIn_struct w 9999 _ _ _ (by kernel_rfl) (by kernel_rfl), hf]
  simp only [Op.eqFields, n0, n1, n2, n3, t0, t1, t2, t3, o0, o1, o2, o3, if_true, ne_eq, not_false_eq_true, Sem.run_bind, p0, p1, p2, p3, q0, q1, q2, q3, Result.andThen_ok, run_equalIn_string w 9998 9 _ _ Tryd.underlying9, run_equalIn_int w 9998 3 _ _ _ _ Tryd.underlying3, run_equalIn_int w 9998 2 _ _ _ _ Tryd.underlying2, Sem.run_ite, Sem.run_pure]
  unfold eqTO eqS
  cases (f.key.toList == g.key.toList) <;> cases (f.elem.toList == g.elem.toList) <;> by_cases hk : f.kind = g.kind <;> by_cases hn : f.n = g.n <;> simp [hk, hn]

def tsameB : List TO → List TO → Bool
  | [], [] => true
  | f :: a, g :: b => eqTO f g && tsameB a b
  | _, _ => false
theorem tsameB_iff {La Lb : List TO} : tsameB La Lb = true ↔ La = Lb := by
  induction La generalizing Lb with
  | nil => cases Lb <;> simp [tsameB]
  | cons f a ih =>
    cases Lb with
    | nil => simp [tsameB]
    | cons g b => simp [tsameB, eqTO_iff, ih]
theorem tsameB_yes {La Lb : List TO} (h : La = Lb) : tsameB La Lb = true := tsameB_iff.2 h
theorem tsameB_no {La Lb : List TO} (h : La ≠ Lb) : tsameB La Lb = false := by
  rw [Bool.eq_false_iff]
  exact fun e => h (tsameB_iff.1 e)
def TSameRel (La Lb : List TO) (W : World) (i : Value) (wr : World) : Prop :=
  ∃ k : Nat, k ≤ La.length ∧ i = .int .i64 k ∧ Gr W wr ∧ ∀ j (h1 : j < La.length) (h2 : j < Lb.length), j < k → La[j] = Lb[j]

end Go.Proofs.YtioldhhnkeakcaaDoor
