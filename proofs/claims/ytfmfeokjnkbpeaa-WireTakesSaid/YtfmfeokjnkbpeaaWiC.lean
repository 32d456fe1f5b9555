/- Rows of packets; walk: packets of parts, one part behind the other. -/
import Derived.Test.YtfmfeokjnkbpeaaWiB
import Derived.Test.YtfmfeokjnkbpeaaCln
import Derived.Laws.AppendOwnNone
namespace Go.Proofs.Ytfmfeokjnkbpeaa.Wi
open Go.RowKit

def prow (p : P) : List Value := [.int .i64 p.id, .int .i64 p.src, .int .i64 p.dst, .string p.body]
def prows (L : List P) : List Value := L.flatMap prow
theorem prow_len (p : P) : (prow p).length = 4 := rfl
theorem prows_len (L : List P) : (prows L).length = L.length * 4 := rows_len prow 4 prow_len L
theorem prows_one (L : List P) : ∀ u ∈ prows L, u.oneCell' = true := by
  intro u hu
  obtain ⟨f, _, hf⟩ := List.mem_flatMap.1 hu
  unfold prow at hf
  simp only [List.mem_cons, List.not_mem_nil, or_false] at hf
  rcases hf with rfl | rfl | rfl | rfl <;> rfl
theorem prows_append (a b : List P) : prows (a ++ b) = prows a ++ prows b := List.flatMap_append
theorem PV.sl {w : World} {v : Value} {L : List P} (h : PV w v L) : SL w 4 v L.length (prows L) := by
  obtain ⟨A, c, rfl, h1, h2, h3⟩ := h
  refine ⟨A, c, rfl, h1, h2, prows_len L, fun j u hu => ?_⟩
  obtain ⟨q, r, hq, hr, rfl, hg⟩ := rows_of prow 4 prow_len (by decide) L j u hu
  obtain ⟨b, off, hh, c0, c1, c2, c3⟩ := h3 q hq
  refine ⟨b, off, hh, ?_⟩
  match r, hr with
  | 0, _ =>
    have : (Value.int .i64 L[q].id) = u := by simpa [prow] using hg
    rw [← this, show off + (q * 4 + 0) = off + q * 4 by omega]
    exact c0
  | 1, _ =>
    have : (Value.int .i64 L[q].src) = u := by simpa [prow] using hg
    rw [← this, show off + (q * 4 + 1) = off + q * 4 + 1 by omega]
    exact c1
  | 2, _ =>
    have : (Value.int .i64 L[q].dst) = u := by simpa [prow] using hg
    rw [← this, show off + (q * 4 + 2) = off + q * 4 + 2 by omega]
    exact c2
  | 3, _ =>
    have : (Value.string L[q].body) = u := by simpa [prow] using hg
    rw [← this, show off + (q * 4 + 3) = off + q * 4 + 3 by omega]
    exact c3
theorem PV.of_sl {w : World} {v : Value} {L : List P} {n : Nat} (h : SL w 4 v n (prows L)) : PV w v L := by
  obtain ⟨A, c, hv, h1, ⟨h2, h2'⟩, h3, h4⟩ := h
  have hn : L.length = n := by rw [prows_len] at h3; omega
  subst hn
  refine ⟨A, c, hv, h1, ⟨h2, h2'⟩, fun j hj => ?_⟩
  have at_ : ∀ r, r < 4 → (prows L)[j * 4 + r]? = (prow L[j])[r]? := fun r hr => rows_at prow 4 prow_len L j r hj hr
  obtain ⟨b, off, ha, c0⟩ := h4 (j * 4 + 0) _ (at_ 0 (by decide))
  have g : ∀ r u, r < 4 → (prow L[j])[r]? = some u → w.cell? ⟨b, off + j * 4 + r, none⟩ = some u := fun r u hr hu => by
    obtain ⟨b', off', ha', c'⟩ := h4 (j * 4 + r) u (by rw [at_ r hr]; exact hu)
    rw [ha] at ha'
    injection ha' with ha'
    injection ha' with e1 e2
    subst e1 e2
    rw [Nat.add_assoc]
    exact c'
  exact ⟨b, off, ha, g 0 _ (by decide) rfl, g 1 _ (by decide) rfl, g 2 _ (by decide) rfl, g 3 _ (by decide) rfl⟩
/-- The call owns the slice v from block B on: it reads as the packets L. -/
def PO (w : World) (B : Nat) (v : Value) (L : List P) : Prop := w.ownsRow B 31 4 v L.length (prows L)
theorem PO.gr {w w' : World} {B : Nat} {v : Value} {L : List P} (h : PO w B v L) (g : Gr w w') : PO w' B v L := own_gr h g
theorem PO.le {w : World} {B B' : Nat} {v : Value} {L : List P} (h : PO w B v L) (hb : B' ≤ B) : PO w B' v L := own_le h hb
theorem PO.nil (w : World) (B : Nat) : PO w B (.slice none 0 0) [] := World.ownsRow_nil w B _ _
theorem PO.pv {w : World} {B : Nat} {v : Value} {L : List P} (h : PO w B v L) : PV w v L := PV.of_sl (own_sl h)
theorem PO.form {w : World} {B : Nat} {v : Value} {L : List P} (h : PO w B v L) : ∃ A c, v = .slice A L.length c ∧ L.length ≤ c ∧ c ≤ 9223372036854775807 := own_form h
theorem infoPacket : (Try.prog.info? 31).map (fun i => (i.zero, i.size, i.bytes)) = some (some (.agg #[.int .i64 0, .int .i64 0, .int .i64 0, .string ⟨#[]⟩]), 4, 40) := by kernel_rfl

/-- The bodies are not too long to be copied. -/
def Fit (L : List P) : Prop := ∀ p ∈ L, p.body.size ≤ 281474976710656
/-- The slice value v reads as these slices of packets. -/
def SP (w : World) (v : Value) (Ls : List (List P)) : Prop :=
  ∃ A c, v = .slice A Ls.length c ∧ c ≤ 9223372036854775807 ∧ Ls.length ≤ c ∧ ∀ j (hj : j < Ls.length), ∃ b off u, A = some ⟨b, off, none⟩ ∧ w.cell? ⟨b, off + j, none⟩ = some u ∧ PV w u Ls[j]
theorem SP.gr {w w' : World} {v : Value} {Ls : List (List P)} (h : SP w v Ls) (g : Gr w w') : SP w' v Ls := by
  obtain ⟨A, c, hv, h1, h2, h3⟩ := h
  refine ⟨A, c, hv, h1, h2, fun j hj => ?_⟩
  obtain ⟨b, off, u, ha, hc, hp⟩ := h3 j hj
  exact ⟨b, off, u, ha, g.cell hc, hp.gr g⟩
/-- A call's answer: packets in new memory. -/
def RetBag (L : List P) (w : World) (e : Ending) (w' : World) : Prop := ∃ v, e = .returned v ∧ PO w' w.heap.size v L ∧ Gr w w'

def OutRel (Ls : List (List P)) (w : World) (b i : Value) (wr : World) : Prop :=
  ∃ k : Nat, k ≤ Ls.length ∧ i = .int .i64 k ∧ PO wr w.heap.size b (Ls.take k).flatten ∧ Gr w wr
def InRel (Lp L : List P) (w : World) (b i : Value) (wr : World) : Prop :=
  ∃ q : Nat, q ≤ L.length ∧ i = .int .i64 q ∧ PO wr w.heap.size b (Lp ++ L.take q) ∧ Gr w wr
theorem take_snoc {α : Type} {L : List α} {k : Nat} (h : k < L.length) : L.take (k + 1) = L.take k ++ [L[k]] := List.take_succ_eq_append_getElem h
theorem flatten_snoc {L : List (List P)} {k : Nat} (h : k < L.length) : (L.take (k + 1)).flatten = (L.take k).flatten ++ L[k] := by
  rw [take_snoc h, List.flatten_append, List.flatten_singleton]
theorem flatten_le {L : List (List P)} {k : Nat} (h : k < L.length) : (L.take k).flatten.length + L[k].length ≤ L.flatten.length := by
  have e : (L.take (k + 1)).flatten.length ≤ L.flatten.length := by
    conv => rhs; rw [← List.take_append_drop (k + 1) L, List.flatten_append, List.length_append]
    omega
  rw [flatten_snoc h, List.length_append] at e
  exact e
theorem one_row (p : P) : ∀ u ∈ [Value.int .i64 p.id, .int .i64 p.src, .int .i64 p.dst, .string p.body], u.oneCell' = true := fun u hu => by
  simp only [List.mem_cons, List.not_mem_nil, or_false] at hu
  rcases hu with rfl | rfl | rfl | rfl <;> rfl
theorem prows_snoc (L : List P) (p : P) : prows L ++ [Value.int .i64 p.id, .int .i64 p.src, .int .i64 p.dst, .string p.body] = prows (L ++ [p]) := by
  rw [prows_append]
  rfl
theorem in_step {Lp L : List P} {q : Nat} (h : q < L.length) : (Lp ++ L.take q) ++ [L[q]] = Lp ++ L.take (q + 1) := by rw [take_snoc h, List.append_assoc]
end Go.Proofs.Ytfmfeokjnkbpeaa.Wi
