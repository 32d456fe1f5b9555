/- Slices of any elements as rows of cells: what they read as, parts of them, append onto a row of the call's own. -/
import Derived.Test.YtboonfbbnidmbaaBase
import Derived.Laws.AppendOwnNone
import Derived.Maps.AppendAt
import Derived.Deep.AppendLies
import Derived.Lib.Hide
namespace Go.Proofs.Ytboonfbbnidmbaa
open Go.RowKit

/-- The slice value v, of n elements of size cells each, reads as these cells. -/
def SL (w : World) (size : Nat) (v : Value) (n : Nat) (cs : List Value) : Prop :=
  ∃ A c, v = .slice A n c ∧ n ≤ c ∧ (c ≤ maxLen ∧ (A = Option.none → c = 0)) ∧ cs.length = n * size ∧ ∀ j u, cs[j]? = some u → ∃ b off, A = some ⟨b, off, none⟩ ∧ w.cell? ⟨b, off + j, none⟩ = some u
theorem SL.gr {w w' : World} {size : Nat} {v : Value} {n : Nat} {cs : List Value} (h : SL w size v n cs) (g : Gr w w') : SL w' size v n cs := by
  obtain ⟨A, c, hv, h1, h2, h3, h4⟩ := h
  refine ⟨A, c, hv, h1, h2, h3, fun j u hj => ?_⟩
  obtain ⟨b, off, ha, hc⟩ := h4 j u hj
  exact ⟨b, off, ha, g.cell hc⟩
theorem SL.below {w w' : World} {size B : Nat} {v : Value} {n : Nat} {cs : List Value} (h : SL w size v n cs) (g : Below B w w') (hv : ∀ A n c, v = .slice (some A) n c → A.block < B) : SL w' size v n cs := by
  obtain ⟨A, c, hvv, h1, h2, h3, h4⟩ := h
  refine ⟨A, c, hvv, h1, h2, h3, fun j u hj => ?_⟩
  obtain ⟨b, off, ha, hc⟩ := h4 j u hj
  subst ha
  exact ⟨b, off, rfl, by rw [g.cell (p := ⟨b, off + j, none⟩) (show b < B from hv ⟨b, off, none⟩ _ _ hvv)]; exact hc⟩
theorem SL.nil (w : World) (size : Nat) : SL w size (.slice none 0 0) 0 [] := ⟨none, 0, rfl, Nat.le_refl _, ⟨Nat.zero_le _, fun _ => rfl⟩, by simp, fun j u hj => by simp at hj⟩
theorem SL.take {w : World} {size n c k : Nat} {A : Option Addr} {cs : List Value} (h : SL w size (.slice A n c) n cs) (hk : k ≤ n) : SL w size (.slice A k c) k (cs.take (k * size)) := by
  obtain ⟨A', c', hv, h1, h2, h3, h4⟩ := h
  injection hv with e1 e2 e3
  subst e1 e3
  refine ⟨A, c, rfl, by omega, h2, ?_, fun j u hj => ?_⟩
  · rw [List.length_take, h3]
    exact Nat.min_eq_left (Nat.mul_le_mul_right _ hk)
  · rw [List.getElem?_take] at hj
    split at hj
    · exact h4 j u hj
    · cases hj
theorem SL.drop {w : World} {size n c k : Nat} {A : Option Addr} {cs : List Value} (h : SL w size (.slice A n c) n cs) (hk : k ≤ n) : SL w size (sliced A k n c size) (n - k) (cs.drop (k * size)) := by
  obtain ⟨A', c', hv, h1, h2, h3, h4⟩ := h
  injection hv with e1 e2 e3
  subst e1 e3
  unfold sliced
  refine ⟨_, c - k, rfl, by omega, ⟨by omega, fun h => ?_⟩, ?_, fun j u hj => ?_⟩
  · split at h
    · rename_i e; omega
    · cases A with
      | none => have := h2.2 rfl; omega
      | some a => simp at h
  · rw [List.length_drop, h3, Nat.sub_mul]
  · rw [List.getElem?_drop] at hj
    obtain ⟨b, off, ha, hc⟩ := h4 _ u hj
    subst ha
    have hlt : k * size + j < n * size := by
      obtain ⟨hh, _⟩ := List.getElem?_eq_some_iff.1 hj
      rw [h3] at hh; exact hh
    have hkn : k < n := by
      rcases Nat.lt_or_ge k n with h | h
      · exact h
      · have := Nat.mul_le_mul_right size h; omega
    rw [if_neg (by omega)]
    by_cases hz : k * size = 0
    · refine ⟨b, off, ?_, ?_⟩
      · show some ((⟨b, off, none⟩ : Addr).add (k * size)) = _
        rw [Go.WideShapes.add_plain, hz, Nat.add_zero]
      · rw [hz, Nat.zero_add] at hc; exact hc
    · refine ⟨b, off + k * size, ?_, ?_⟩
      · show some ((⟨b, off, none⟩ : Addr).add (k * size)) = _
        rw [Go.WideShapes.add_plain]
      · rw [Nat.add_assoc]; exact hc
theorem own_gr {w w' : World} {base : Nat} {e : TypeId} {size : Nat} {v : Value} {n : Nat} {xs : List Value} (h : w.ownsRow base e size v n xs) (g : Gr w w') : w'.ownsRow base e size v n xs := by
  refine h.kept (row := none) ⟨g.os, g.tape, g.output, g.size, fun k hk _ => g.block k hk⟩ ?_
  cases v.ownBlock <;> simp
theorem own_le {w : World} {B B' : Nat} {e : TypeId} {size : Nat} {v : Value} {n : Nat} {xs : List Value} (h : w.ownsRow B e size v n xs) (hb : B' ≤ B) : w.ownsRow B' e size v n xs := by
  refine ⟨h.1, ?_⟩
  rcases h.2 with h | ⟨g, cap, cur, hv, hg, r⟩
  · exact .inl h
  · exact .inr ⟨g, cap, cur, hv, Nat.le_trans hb hg, r⟩
theorem gr_of_grown {w w' w0 : World} {v : Value} {base : Nat} {e : TypeId} {size n : Nat} {xs : List Value} (h : Below base w0 w) (hown : w.ownsRow base e size v n xs) (hg : w.grownBy w' v.ownBlock) (hB : base ≤ w.heap.size) : Below base w0 w' :=
  Below.grown h hg hB (fun k hk => (hown.lt k hk).1)
theorem own_form {w : World} {B : Nat} {e : TypeId} {size : Nat} {v : Value} {n : Nat} {xs : List Value} (h : w.ownsRow B e size v n xs) : ∃ A c, v = .slice A n c ∧ n ≤ c ∧ c ≤ 9223372036854775807 := by
  rcases h.2 with ⟨rfl, rfl⟩ | ⟨g, cap, cur, rfl, hb, hg, hn, hm, hc, ht⟩
  · exact ⟨_, _, rfl, Nat.le_refl _, by omega⟩
  · exact ⟨_, _, rfl, hn, hm⟩
theorem own_none (w : World) (t : TypeId) (size : Nat) : (w.alloc (.cells #[] t)).ownsRow w.heap.size t size (.slice (some ⟨w.heap.size, 0, none⟩) 0 0) 0 [] :=
  World.ownsRow_made w #[] 0 (Nat.le_refl _) (Nat.zero_le _) (by simp)
/-- What the call owns can be read. -/
theorem own_sl {w : World} {B : Nat} {e : TypeId} {size : Nat} {v : Value} {n : Nat} {xs : List Value} (h : w.ownsRow B e size v n xs) : SL w size v n xs := by
  have h' := h
  rcases h.2 with ⟨rfl, h0⟩ | ⟨g, cap, cur, rfl, hb, hg, hn, hm, hc, ht⟩
  · subst h0
    have : xs = [] := List.length_eq_zero_iff.1 (by rw [h.1]; simp)
    subst this
    exact SL.nil w size
  · refine ⟨_, cap, rfl, hn, ⟨hm, fun h => by cases h⟩, h'.1, fun j u hj => ⟨g, 0, rfl, ?_⟩⟩
    obtain ⟨hl, _⟩ := List.getElem?_eq_some_iff.1 hj
    rw [h'.1] at hl
    rw [Nat.zero_add, h'.cellAt j hl]
    exact hj
/-- A row that was just laid. -/
theorem sl_new (w : World) (cs : Array Value) (t : TypeId) (n size : Nat) (hs : cs.size = n * size) (hm : n ≤ maxLen) : SL (w.alloc (.cells cs t)) size (.slice (some ⟨w.heap.size, 0, none⟩) n n) n cs.toList := by
  refine ⟨_, n, rfl, Nat.le_refl _, ⟨hm, fun h => by cases h⟩, by rw [Array.length_toList]; exact hs, fun j u hj => ⟨w.heap.size, 0, rfl, ?_⟩⟩
  rw [Nat.zero_add, World.cell?_alloc_mark]
  rw [Array.getElem?_toList] at hj
  exact hj
theorem Gr.frozen {w w' : World} (h : Gr w w') {p : Addr} (hp : p.block < w.heap.size) (hf : w.frozen? p = false) : w'.frozen? p = false := by rw [Below.frozen h hp]; exact hf
theorem gr_box (w : World) (o : Obj) : Gr w (w.alloc o) := (Gr.refl w).alloc o

section
variable {P : Program} (W : World)
theorem run_append_nil_at (base : Nat) (t ty e : TypeId) (i : TypeInfo) (size : Nat) (ht : P.underlying t = some (.slice e)) (hi : P.info? e = some i)
    (v : Value) (n : Nat) (xs : List Value) (hown : W.ownsRow base e size v n xs) (c : Nat) : (Builtin.append_ #[t, t] ty #[v, .slice none 0 c]).run P W = .ok v W := by
  rcases hown.2 with ⟨rfl, rfl⟩ | ⟨g, cap, cur, rfl, _, _, hnc, _⟩
  · simp [Builtin.append_, run_underlying ht, sizeOf, typeInfo, hi, Builtin.lenOf, Builtin.firstCells]
  · simp [Builtin.append_, run_underlying ht, sizeOf, typeInfo, hi, Builtin.lenOf, Builtin.firstCells, hnc, storeCells]
theorem run_append_sl (base : Nat) (t ty e : TypeId) (i : TypeInfo) (z : Value) (size bytes : Nat) (ht : P.underlying t = some (.slice e)) (hi : P.info? e = some i) (hz : i.zero = some z)
    (hsize : i.size = size) (hby : i.bytes = bytes) (hzs : z.cells.size = size) (hsz : 0 < size)
    (v : Value) (n : Nat) (xs : List Value) (hown : W.ownsRow base e size v n xs) (x : Value) (m : Nat) (news : List Value) (hx : SL W size x m news) (h1 : ∀ u ∈ news, u.oneCell' = true)
    (h63 : n + m ≤ maxLen) (hbytes : (n + m) * bytes ≤ 140737488355328) (hbase : base ≤ W.heap.size) :
    ∃ A' c' w', (Builtin.append_ #[t, t] ty #[v, x]).run P W = .ok (.slice A' (n + m) c') w' ∧ w'.ownsRow base e size (.slice A' (n + m) c') (n + m) (xs ++ news) ∧ W.grownBy w' v.ownBlock ∧
      ((Value.slice A' (n + m) c').ownBlock = v.ownBlock ∨ (Value.slice A' (n + m) c').ownBlock = some W.heap.size) := by
  obtain ⟨A, c, rfl, l1, l2, l3, l4⟩ := hx
  cases A with
  | none =>
    have hc := l2.2 rfl
    have hm : m = 0 := by omega
    subst hc hm
    have hn : news = [] := List.length_eq_zero_iff.1 (by rw [l3]; simp)
    subst hn
    have hr := run_append_nil_at W base t ty e i size ht hi v n xs hown (P := P) 0
    obtain ⟨A', c', rfl, _⟩ := own_form hown
    exact ⟨A', c', W, hr, by simpa using hown, World.grownBy.refl W _, .inl rfl⟩
  | some a =>
    have hnews : ∀ j u, news[j]? = some u → W.cell? (a.add j) = some u := by
      intro j u hu
      obtain ⟨b, off, hh, hc⟩ := l4 j u hu
      injection hh with hh
      subst hh
      rw [Go.WideShapes.add_plain]
      exact hc
    obtain ⟨v', w', hr, h2, h3, _, h5⟩ := run_append_own_at (P := P) W base t ty e i z size bytes ht hi hz hsize hby hzs hsz v n xs hown a m c news l3 hnews h1 h63 hbytes hbase
    obtain ⟨A', c', rfl, _⟩ := own_form h2
    exact ⟨A', c', w', hr, h2, h3, h5⟩
theorem wp_append_sl {o : Oper} {a : Act} {K : Act → World → Prop} {Q : Exit → Act → World → Prop} (s x : Operand) (t : TypeId)
    (ho : o.op = .call { callee := .builtin .append, args := #[s, x], argTypes := #[t, t] })
    (base : Nat) (e : TypeId) (i : TypeInfo) (z : Value) (size bytes : Nat) (ht : P.underlying t = some (.slice e)) (hi : P.info? e = some i) (hz : i.zero = some z)
    (hsize : i.size = size) (hby : i.bytes = bytes) (hzs : z.cells.size = size) (hsz : 0 < size)
    (v : Value) (n : Nat) (xs : List Value) (hs : a.eval s = v) (hown : W.ownsRow base e size v n xs) (vx : Value) (m : Nat) (news : List Value) (hxe : a.eval x = vx) (hx : SL W size vx m news) (h1 : ∀ u ∈ news, u.oneCell' = true)
    (h63 : n + m ≤ maxLen) (hbytes : (n + m) * bytes ≤ 140737488355328) (hbase : base ≤ W.heap.size) (N : Nat) (hN : n + m = N)
    (h : ∀ A' c' w', w'.ownsRow base e size (.slice A' N c') N (xs ++ news) → W.grownBy w' v.ownBlock → ((Value.slice A' N c').ownBlock = v.ownBlock ∨ (Value.slice A' N c').ownBlock = some W.heap.size) → K (a.put o.dst (.slice A' N c')) w') : o.wp P a W K Q := by
  subst hN
  obtain ⟨A', c', w', hr, h2, h3, h4⟩ := run_append_sl (P := P) W base t o.type e i z size bytes ht hi hz hsize hby hzs hsz v n xs hown vx m news hx h1 h63 hbytes hbase
  unfold Oper.wp execOp
  simp only [ho, resolve, invoke, builtin, Sem.run_bind, Sem.run_pure, Result.andThen_ok, List.map_toArray, List.map_cons, List.map_nil, hs, hxe, hr]
  exact h A' c' w' h2 h3 h4
theorem wpList_append_sl {ops : Array Oper} {rest : List Oper} {o : Oper} {a : Act} {Q : Exit → Act → World → Prop} (hgd : o.guard = none) (s x : Operand) (t : TypeId)
    (ho : o.op = .call { callee := .builtin .append, args := #[s, x], argTypes := #[t, t] })
    (base : Nat) (e : TypeId) (i : TypeInfo) (z : Value) (size bytes : Nat) (ht : P.underlying t = some (.slice e)) (hi : P.info? e = some i) (hz : i.zero = some z)
    (hsize : i.size = size) (hby : i.bytes = bytes) (hzs : z.cells.size = size) (hsz : 0 < size)
    (v : Value) (n : Nat) (xs : List Value) (hs : a.eval s = v) (hown : W.ownsRow base e size v n xs) (vx : Value) (m : Nat) (news : List Value) (hxe : a.eval x = vx) (hx : SL W size vx m news) (h1 : ∀ u ∈ news, u.oneCell' = true)
    (h63 : n + m ≤ maxLen) (hbytes : (n + m) * bytes ≤ 140737488355328) (hbase : base ≤ W.heap.size) (N : Nat) (hN : n + m = N)
    (h : ∀ A' c' w', w'.ownsRow base e size (.slice A' N c') N (xs ++ news) → W.grownBy w' v.ownBlock → ((Value.slice A' N c').ownBlock = v.ownBlock ∨ (Value.slice A' N c').ownBlock = some W.heap.size) → wpList P ops Q rest (a.put o.dst (.slice A' N c')) w') :
    wpList P ops Q (o :: rest) a W :=
  wpList_plain hgd fun _ hK => wp_append_sl W s x t ho base e i z size bytes ht hi hz hsize hby hzs hsz v n xs hs hown vx m news hxe hx h1 h63 hbytes hbase N hN fun A' c' w' h2 h3 h4 => hK _ _ (h A' c' w' h2 h3 h4)
theorem step_append_sl {ops : Array Oper} {o : Oper} {a : Act} {K : Act → World → Prop} {Q : Exit → Act → World → Prop} {E : Prop} (hgd : o.guard = none) (s x : Operand) (t : TypeId)
    (ho : o.op = .call { callee := .builtin .append, args := #[s, x], argTypes := #[t, t] })
    (base : Nat) (e : TypeId) (i : TypeInfo) (z : Value) (size bytes : Nat) (ht : P.underlying t = some (.slice e)) (hi : P.info? e = some i) (hz : i.zero = some z)
    (hsize : i.size = size) (hby : i.bytes = bytes) (hzs : z.cells.size = size) (hsz : 0 < size)
    (v : Value) (n : Nat) (xs : List Value) (hs : a.eval s = v) (hown : W.ownsRow base e size v n xs) (vx : Value) (m : Nat) (news : List Value) (hxe : a.eval x = vx) (hx : SL W size vx m news) (h1 : ∀ u ∈ news, u.oneCell' = true)
    (h63 : n + m ≤ maxLen) (hbytes : (n + m) * bytes ≤ 140737488355328) (hbase : base ≤ W.heap.size) (N : Nat) (hN : n + m = N)
    (h : ∀ A' c' w', w'.ownsRow base e size (.slice A' N c') N (xs ++ news) → W.grownBy w' v.ownBlock → ((Value.slice A' N c').ownBlock = v.ownBlock ∨ (Value.slice A' N c').ownBlock = some W.heap.size) → K (a.put o.dst (.slice A' N c')) w') :
    if Region.wanted o (yielded ops a.tmps) = true then Oper.wp P o a W K Q else E := by
  have hw : Region.wanted o (yielded ops a.tmps) = true := by simp [Region.wanted, hgd]
  rw [if_pos hw]
  exact wp_append_sl W s x t ho base e i z size bytes ht hi hz hsize hby hzs hsz v n xs hs hown vx m news hxe hx h1 h63 hbytes hbase N hN h
end
end Go.Proofs.Ytboonfbbnidmbaa
