/- Rows of operations: what they read as. -/
import Derived.Test.YtmkcgnljankmdaaDoorDiskN
import Derived.Test.YtmkcgnljankmdaaDoorRowsG
namespace Go.Proofs.YtmkcgnljankmdaaDoor
open Go.RowKit

def ocell (o : O) : List Value := [.int .i64 o.kind, .string o.name, .string o.bytes, .int .i64 o.at_]
theorem ocell_len (o : O) : (ocell o).length = 4 := rfl
def ocells (ops : List O) : List Value := ops.flatMap ocell
theorem OV.of_sl {w : World} {v : Value} {ops : List O} {n : Nat} (h : SL w 4 v n (ocells ops)) : OV w v ops := by
  obtain ⟨A, c, hv, h1, ⟨h2, h2'⟩, h3, h4⟩ := h
  have hn : ops.length = n := by
    have := rows_len ocell 4 ocell_len ops
    unfold ocells at h3
    omega
  subst hn
  refine ⟨A, c, hv, h1, ⟨h2, h2'⟩, fun j hj => ?_⟩
  have at_ : ∀ r, r < 4 → (ocells ops)[j * 4 + r]? = (ocell ops[j])[r]? := fun r hr => rows_at ocell 4 ocell_len ops j r hj hr
  obtain ⟨b, off, ha, c0⟩ := h4 (j * 4 + 0) _ (at_ 0 (by decide))
  have g : ∀ r u, r < 4 → (ocell ops[j])[r]? = some u → w.cell? ⟨b, off + j * 4 + r, none⟩ = some u := fun r u hr hu => by
    obtain ⟨b', off', ha', c'⟩ := h4 (j * 4 + r) u (by rw [at_ r hr]; exact hu)
    rw [ha] at ha'
    injection ha' with ha'
    injection ha' with e1 e2
    subst e1 e2
    rw [Nat.add_assoc]
    exact c'
  exact ⟨b, off, ha, g 0 _ (by decide) rfl, g 1 _ (by decide) rfl, g 2 _ (by decide) rfl, g 3 _ (by decide) rfl⟩
theorem OV.sl {w : World} {v : Value} {ops : List O} (h : OV w v ops) : SL w 4 v ops.length (ocells ops) := by
  obtain ⟨A, c, hv, h1, h2, h3⟩ := h
  refine ⟨A, c, hv, h1, h2, rows_len ocell 4 ocell_len ops, fun j u hj => ?_⟩
  obtain ⟨q, r, hq, hr, rfl, hu⟩ := rows_of ocell 4 ocell_len (by decide) ops j u hj
  obtain ⟨b, off, ha, c0, c1, c2, c3⟩ := h3 q hq
  refine ⟨b, off, ha, ?_⟩
  rw [← Nat.add_assoc]
  match r, hr with
  | 0, _ => injection hu with hu; rw [← hu]; exact c0
  | 1, _ => injection hu with hu; rw [← hu]; exact c1
  | 2, _ => injection hu with hu; rw [← hu]; exact c2
  | 3, _ => injection hu with hu; rw [← hu]; exact c3
theorem infoOp : (Tryd.prog.info? 49).map (fun i => (i.zero, i.size, i.bytes)) = some (some (.agg #[.int .i64 0, .string ⟨#[]⟩, .string ⟨#[]⟩, .int .i64 0]), 4, 48) := by kernel_rfl
theorem ocells_one (ops : List O) : ∀ u ∈ ocells ops, u.oneCell' = true := by
  intro u hu
  obtain ⟨o, _, hu⟩ := List.mem_flatMap.1 hu
  unfold ocell at hu
  simp only [List.mem_cons, List.not_mem_nil, or_false] at hu
  rcases hu with rfl | rfl | rfl | rfl <;> rfl

/-- The call owns the slice v from block B on: it reads as these operations. -/
def OO (w : World) (B : Nat) (v : Value) (ops : List O) : Prop := w.ownsRow B 49 4 v ops.length (ocells ops)
theorem OO.gr {w w' : World} {B : Nat} {v : Value} {ops : List O} (h : OO w B v ops) (g : Gr w w') : OO w' B v ops := own_gr h g
theorem OO.le {w : World} {B B' : Nat} {v : Value} {ops : List O} (h : OO w B v ops) (hb : B' ≤ B) : OO w B' v ops := own_le h hb
theorem OO.nil (w : World) (B : Nat) : OO w B (.slice none 0 0) [] := World.ownsRow_nil w B _ _
theorem OO.ov {w : World} {B : Nat} {v : Value} {ops : List O} (h : OO w B v ops) : OV w v ops := OV.of_sl (own_sl h)
theorem OO.form {w : World} {B : Nat} {v : Value} {ops : List O} (h : OO w B v ops) : ∃ A c, v = .slice A ops.length c ∧ ops.length ≤ c ∧ c ≤ 9223372036854775807 := own_form h
end Go.Proofs.YtmkcgnljankmdaaDoor
