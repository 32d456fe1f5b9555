/- What every law's proof needs: memory that only grows; the last step of a law whose call answers true and leaves all that was there; the world of the witness. When two strings are equal. It names no program. Slices of any elements as rows of cells: what they read as, parts of them, append onto a row of the call's own. Rows of structs: cells of a list of elements of one length each. -/
import Derived.Test.YtnjmgknicffcbaaGreatDoorCards
import Derived.Test.YtnjmgknicffcbaaGreatDoorTie
import Derived.Test.YtnjmgknicffcbaaGreatDoorRows
import Derived.WalkKit
import Derived.ProofKit
import Derived.OpenShut
import Derived.Deep.DeepHandedRow
import Derived.Lib.LaidTab
import Derived.Deep.Draws
import GoSem.Op.String
import Derived.Laws.Strings
import Derived.Laws.AppendOwnNone
import Derived.Maps.AppendAt
import Derived.Deep.AppendLies
import Derived.Lib.Hide
import Derived.Lib.SliceRun
namespace Go.Proofs.YtnjmgknicffcbaaGreatDoor
open Go.ChangeShapes Go.WideShapes Go.RowKit

/-- Nothing that was there has changed. -/
def Gr (w w' : World) : Prop := Below w.heap.size w w'
theorem Gr.refl (w : World) : Gr w w := Below.refl _ _
theorem Gr.trans {a b c : World} (h : Gr a b) (k : Gr b c) : Gr a c := Below.trans h (Below.mono k h.size)
theorem Gr.alloc {a b : World} (h : Gr a b) (o : Obj) : Gr a (b.alloc o) := Below.alloc h h.size o
theorem Gr.drew {a b : World} (h : Gr a b) : Gr a b.drew := Below.drew h
theorem Gr.drewN {a b : World} (h : Gr a b) (n : Nat) : Gr a (b.drewN n) := ⟨h.os, h.tape, h.output, h.size, h.block⟩
theorem Gr.cell {a b : World} (h : Gr a b) {p : Addr} {v : Value} (hp : a.cell? p = some v) : b.cell? p = some v := by
  by_cases hb : p.block < a.heap.size
  · rw [Below.cell h hb]; exact hp
  · have hn : a.heap[p.block]? = none := by simp; omega
    unfold World.cell? at hp
    rw [hn] at hp
    simp at hp

section
variable {H : Type} {enc : TypeId × Value → H} {P : Program}

theorem allStay (hl : laidOutB P = true) {W W' : World} (hb : Below W.heap.size W W') {sp : Nat → Bool} :
    ∀ {ts : List TypeId} {vs : List Value} {ds : List (DataW H)} {ps : List MemPlace}, ts.all (fun t => P.readableRec t && decide (t < P.types.size)) = true →
      DataW.TrodAll enc P W 0 (fun _ => true) true ts vs ds ps → (∀ p ∈ ps, p.block < W.heap.size) → (∀ p ∈ ps, sp p.block = true) → DataW.TrodAll enc P W' 0 sp true ts vs ds ps
  | [], vs, ds, ps, _, h, _, _ => by
    obtain ⟨rfl, rfl, rfl⟩ := trodAll_nil h
    exact trodAll_mk0
  | t :: ts, vs, ds, ps, ht, h, hlt, hs => by
    obtain ⟨v, vs', d, ds', p, q, rfl, rfl, rfl, h1, h2⟩ := trodAll_cons h
    simp only [List.all_cons, Bool.and_eq_true, decide_eq_true_eq] at ht
    exact trodAll_cons_mk (WideElems.Trod_stays hl ht.1.1 ht.1.2 h1 (fun x hx => hb.same (hlt x (by simp [hx]))) (fun x hx => hs x (by simp [hx])))
      (allStay hl hb ht.2 h2 (fun x hx => hlt x (by simp [hx])) (fun x hx => hs x (by simp [hx])))

/-- THE LAST STEP OF A LAW: it answers true, and nothing that was there has changed. -/
theorem lawPost {f : Func} {s : ChangeSpec} {apart fresh handsOn again : Bool} {W W' : World} {args : Array Value} {ds gs : List (DataW H)} {before : List MemPlace} {tb : TypeId}
    (hl : laidOutB P = true) (hr : f.params.toList.all (fun t => P.readableRec t && decide (t < P.types.size)) = true)
    (hW : DataW.Whole enc P f.params.toList s.vars apart W args.toList ds gs before) (hv : s.vars = [])
    (hfn : s.fn H ds = { results := [.lit (.bool true)], args := ds }) (hrt : f.resultTypes = #[tb]) (ht : P.underlying tb = some .bool) (hb : Gr W W') :
    s.post enc P f apart fresh handsOn again W args (.bool true) W' := by
  have hlt : ∀ p ∈ before, p.block < W.heap.size := fun p hp => hW.lt p hp
  have hWk := hW
  obtain ⟨p, q, hA, hV, hpq, hz, hn⟩ := hW
  rw [hv] at hV
  obtain ⟨rfl, rfl⟩ := trodVars_none hV
  rw [List.append_nil] at hpq
  subst hpq
  have hf : s.fn H (ds ++ []) = { results := [.lit (.bool true)], args := ds } := by rw [List.append_nil]; exact hfn
  have hres : ∀ (b : Nat) (sp : Nat → Bool) (hd : Bool), DataW.TrodAll enc P W' b sp hd f.resultTypes.toList ((Value.bool true).resultList f.resultTypes.size) (s.fn H (ds ++ [])).results [] := by
    intro b sp hd
    rw [hf, hrt]
    exact trodAll_mk1 (shut_bool ht true)
  have hargs : ∀ sp : Nat → Bool, (∀ x ∈ before, sp x.block = true) → DataW.TrodAll enc P W' 0 sp true f.params.toList args.toList (s.fn H (ds ++ [])).args before := by
    intro sp hs
    rw [hf]
    exact allStay hl hb hr hA hlt hs
  have hvars : ∀ sp : Nat → Bool, DataW.TrodVars enc P W' sp s.vars (s.fn H (ds ++ [])).vars [] := by
    intro sp
    rw [hf, hv]
    rfl
  have hold : ∀ x ∈ before, (fun b => decide (b < W.heap.size)) x.block = true := fun x hx => by simpa using hlt x hx
  refine ⟨ds, [], before, [], before, [], hWk, hres _ _ _, hargs _ hold, hvars _, World.keptBut_mono (fun x hx => ⟨hx, Or.inr (Or.inl hx)⟩) (Below.frame hb (· ∈ before)), fun _ => ?_⟩
  refine ⟨ok_one hrt rfl (okWide_bool_mk ht true), _, _, ([] ++ before) ++ [], ⟨[] ++ before, [], trodAll_append (hargs _ (fun _ _ => rfl)) (hres _ _ _), hvars _, rfl, ?_, ?_⟩, ?_⟩
  · intro b off hp
    have hin : MemPlace.cell b off ∈ before := by simpa using hp
    rw [Below.frozen hb (hlt _ hin)]
    exact hz b off hin
  · intro ha
    simpa using hn ha
  · intro x hx _
    simpa using hx
end

theorem own : ownKnob Tryz.prog.godebug = none := by kernel_rfl
theorem laidOut : laidOutB Tryz.prog = true := by kernel_rfl
end Go.Proofs.YtnjmgknicffcbaaGreatDoor
namespace Go.Proofs.YtnjmgknicffcbaaGreatDoor

def eqS (x y : ByteArray) : Bool := x.toList == y.toList
theorem eqS_iff {x y : ByteArray} : eqS x y = true ↔ x = y := by
  unfold eqS
  rw [beq_iff_eq]
  refine ⟨fun h => ?_, fun h => by rw [h]⟩
  rw [ByteArray.toList_eq, ByteArray.toList_eq] at h
  exact ByteArray.ext (Array.toList_inj.1 h)
theorem eqS_self (x : ByteArray) : eqS x x = true := eqS_iff.2 rfl

end Go.Proofs.YtnjmgknicffcbaaGreatDoor
namespace Go.Proofs.YtnjmgknicffcbaaGreatDoor
open Go.RowKit

/-- The slice value v, of n elements of size cells each, reads as these cells. -/
def SL (w : World) (size : Nat) (v : Value) (n : Nat) (cs : List Value) : Prop :=
  ∃ A c, v = .slice A n c ∧ n ≤ c ∧ (c ≤ maxLen ∧ (A = Option.none → c = 0)) ∧ cs.length = n * size ∧ ∀ j u, cs[j]? = some u → ∃ b off, A = some ⟨b, off, none⟩ ∧ w.cell? ⟨b, off + j, none⟩ = some u
theorem SL.gr {w w' : World} {size : Nat} {v : Value} {n : Nat} {cs : List Value} (h : SL w size v n cs) (g : Gr w w') : SL w' size v n cs := by
  obtain ⟨A, c, hv, h1, h2, h3, h4⟩ := h
  refine ⟨A, c, hv, h1, h2, h3, fun j u hj => ?_⟩
  obtain ⟨b, off, ha, hc⟩ := h4 j u hj
  exact ⟨b, off, ha, g.cell hc⟩
theorem SL.below {w w' : World} {size B : Nat} {v : Value} {n : Nat} {cs : List Value} (h : SL w size v n cs) (g : Below B w w') (hv : ∀ A n c, v = .slice (some A) n c → A.block < B) : SL w' size v n cs := by
  obtain ⟨A, c, hvv, h1, h2, h3, h4⟩ := h
  refine ⟨A, c, hvv, h1, h2, h3, fun j u hj => ?_⟩
  obtain ⟨b, off, ha, hc⟩ := h4 j u hj
  subst ha
  exact ⟨b, off, rfl, by rw [g.cell (p := ⟨b, off + j, none⟩) (show b < B from hv ⟨b, off, none⟩ _ _ hvv)]; exact hc⟩
theorem SL.nil (w : World) (size : Nat) : SL w size (.slice none 0 0) 0 [] := ⟨none, 0, rfl, Nat.le_refl _, ⟨Nat.zero_le _, fun _ => rfl⟩, by simp, fun j u hj => by simp at hj⟩
theorem SL.take {w : World} {size n c k : Nat} {A : Option Addr} {cs : List Value} (h : SL w size (.slice A n c) n cs) (hk : k ≤ n) : SL w size (.slice A k c) k (cs.take (k * size)) := by
  obtain ⟨A', c', hv, h1, h2, h3, h4⟩ := h
  injection hv with e1 e2 e3
  subst e1 e3
  refine ⟨A, c, rfl, by omega, h2, ?_, fun j u hj => ?_⟩
  · rw [List.length_take, h3]
    exact Nat.min_eq_left (Nat.mul_le_mul_right _ hk)
  · rw [List.getElem?_take] at hj
    split at hj
    · exact h4 j u hj
    · cases hj
theorem SL.drop {w : World} {size n c k : Nat} {A : Option Addr} {cs : List Value} (h : SL w size (.slice A n c) n cs) (hk : k ≤ n) : SL w size (sliced A k n c size) (n - k) (cs.drop (k * size)) := by
  obtain ⟨A', c', hv, h1, h2, h3, h4⟩ := h
  injection hv with e1 e2 e3
  subst e1 e3
  unfold sliced
  refine ⟨_, c - k, rfl, by omega, ⟨by omega, fun h => ?_⟩, ?_, fun j u hj => ?_⟩
  · split at h
    · rename_i e; omega
    · cases A with
      | none => have := h2.2 rfl; omega
      | some a => simp at h
  · rw [List.length_drop, h3, Nat.sub_mul]
  · rw [List.getElem?_drop] at hj
    obtain ⟨b, off, ha, hc⟩ := h4 _ u hj
    subst ha
    have hlt : k * size + j < n * size := by
      obtain ⟨hh, _⟩ := List.getElem?_eq_some_iff.1 hj
      rw [h3] at hh; exact hh
    have hkn : k < n := by
      rcases Nat.lt_or_ge k n with h | h
      · exact h
      · have := Nat.mul_le_mul_right size h; omega
    rw [if_neg (by omega)]
    by_cases hz : k * size = 0
    · refine ⟨b, off, ?_, ?_⟩
      · show some ((⟨b, off, none⟩ : Addr).add (k * size)) = _
        rw [Go.WideShapes.add_plain, hz, Nat.add_zero]
      · rw [hz, Nat.zero_add] at hc; exact hc
    · refine ⟨b, off + k * size, ?_, ?_⟩
      · show some ((⟨b, off, none⟩ : Addr).add (k * size)) = _
        rw [Go.WideShapes.add_plain]
      · rw [Nat.add_assoc]; exact hc
theorem own_gr {w w' : World} {base : Nat} {e : TypeId} {size : Nat} {v : Value} {n : Nat} {xs : List Value} (h : w.ownsRow base e size v n xs) (g : Gr w w') : w'.ownsRow base e size v n xs := by
  refine h.kept (row := none) ⟨g.os, g.tape, g.output, g.size, fun k hk _ => g.block k hk⟩ ?_
  cases v.ownBlock <;> simp
theorem own_le {w : World} {B B' : Nat} {e : TypeId} {size : Nat} {v : Value} {n : Nat} {xs : List Value} (h : w.ownsRow B e size v n xs) (hb : B' ≤ B) : w.ownsRow B' e size v n xs := by
  refine ⟨h.1, ?_⟩
  rcases h.2 with h | ⟨g, cap, cur, hv, hg, r⟩
  · exact .inl h
  · exact .inr ⟨g, cap, cur, hv, Nat.le_trans hb hg, r⟩
theorem gr_of_grown {w w' w0 : World} {v : Value} {base : Nat} {e : TypeId} {size n : Nat} {xs : List Value} (h : Below base w0 w) (hown : w.ownsRow base e size v n xs) (hg : w.grownBy w' v.ownBlock) (hB : base ≤ w.heap.size) : Below base w0 w' :=
  Below.grown h hg hB (fun k hk => (hown.lt k hk).1)
theorem own_form {w : World} {B : Nat} {e : TypeId} {size : Nat} {v : Value} {n : Nat} {xs : List Value} (h : w.ownsRow B e size v n xs) : ∃ A c, v = .slice A n c ∧ n ≤ c ∧ c ≤ 9223372036854775807 := by
  rcases h.2 with ⟨rfl, rfl⟩ | ⟨g, cap, cur, rfl, hb, hg, hn, hm, hc, ht⟩
  · exact ⟨_, _, rfl, Nat.le_refl _, by omega⟩
  · exact ⟨_, _, rfl, hn, hm⟩
theorem own_none (w : World) (t : TypeId) (size : Nat) : (w.alloc (.cells #[] t)).ownsRow w.heap.size t size (.slice (some ⟨w.heap.size, 0, none⟩) 0 0) 0 [] :=
  World.ownsRow_made w #[] 0 (Nat.le_refl _) (Nat.zero_le _) (by simp)
/-- What the call owns can be read. -/
theorem own_sl {w : World} {B : Nat} {e : TypeId} {size : Nat} {v : Value} {n : Nat} {xs : List Value} (h : w.ownsRow B e size v n xs) : SL w size v n xs := by
  have h' := h
  rcases h.2 with ⟨rfl, h0⟩ | ⟨g, cap, cur, rfl, hb, hg, hn, hm, hc, ht⟩
  · subst h0
    have : xs = [] := List.length_eq_zero_iff.1 (by rw [h.1]; simp)
    subst this
    exact SL.nil w size
  · refine ⟨_, cap, rfl, hn, ⟨hm, fun h => by cases h⟩, h'.1, fun j u hj => ⟨g, 0, rfl, ?_⟩⟩
    obtain ⟨hl, _⟩ := List.getElem?_eq_some_iff.1 hj
    rw [h'.1] at hl
    rw [Nat.zero_add, h'.cellAt j hl]
    exact hj
theorem Gr.frozen {w w' : World} (h : Gr w w') {p : Addr} (hp : p.block < w.heap.size) (hf : w.frozen? p = false) : w'.frozen? p = false := by rw [Below.frozen h hp]; exact hf
theorem gr_box (w : World) (o : Obj) : Gr w (w.alloc o) := (Gr.refl w).alloc o

section
variable {P : Program} (W : World)
theorem run_append_nil_at (base : Nat) (t ty e : TypeId) (i : TypeInfo) (size : Nat) (ht : P.underlying t = some (.slice e)) (hi : P.info? e = some i)
    (v : Value) (n : Nat) (xs : List Value) (hown : W.ownsRow base e size v n xs) (c : Nat) : (Builtin.append_ #[t, t] ty #[v, .slice none 0 c]).run P W = .ok v W := by
  rcases hown.2 with ⟨rfl, rfl⟩ | ⟨g, cap, cur, rfl, _, _, hnc, _⟩
  · simp [Builtin.append_, run_underlying ht, sizeOf, typeInfo, hi, Builtin.lenOf, Builtin.firstCells]
  · simp [Builtin.append_, run_underlying ht, sizeOf, typeInfo, hi, Builtin.lenOf, Builtin.firstCells, hnc, storeCells]
theorem run_append_sl (base : Nat) (t ty e : TypeId) (i : TypeInfo) (z : Value) (size bytes : Nat) (ht : P.underlying t = some (.slice e)) (hi : P.info? e = some i) (hz : i.zero = some z)
    (hsize : i.size = size) (hby : i.bytes = bytes) (hzs : z.cells.size = size) (hsz : 0 < size)
    (v : Value) (n : Nat) (xs : List Value) (hown : W.ownsRow base e size v n xs) (x : Value) (m : Nat) (news : List Value) (hx : SL W size x m news) (h1 : ∀ u ∈ news, u.oneCell' = true)
    (h63 : n + m ≤ maxLen) (hbytes : (n + m) * bytes ≤ 140737488355328) (hbase : base ≤ W.heap.size) :
    ∃ A' c' w', (Builtin.append_ #[t, t] ty #[v, x]).run P W = .ok (.slice A' (n + m) c') w' ∧ w'.ownsRow base e size (.slice A' (n + m) c') (n + m) (xs ++ news) ∧ W.grownBy w' v.ownBlock ∧
      ((Value.slice A' (n + m) c').ownBlock = v.ownBlock ∨ (Value.slice A' (n + m) c').ownBlock = some W.heap.size) := by
  obtain ⟨A, c, rfl, l1, l2, l3, l4⟩ := hx
  cases A with
  | none =>
    have hc := l2.2 rfl
    have hm : m = 0 := by omega
    subst hc hm
    have hn : news = [] := List.length_eq_zero_iff.1 (by rw [l3]; simp)
    subst hn
    have hr := run_append_nil_at W base t ty e i size ht hi v n xs hown (P := P) 0
    obtain ⟨A', c', rfl, _⟩ := own_form hown
    exact ⟨A', c', W, hr, by simpa using hown, World.grownBy.refl W _, .inl rfl⟩
  | some a =>
    have hnews : ∀ j u, news[j]? = some u → W.cell? (a.add j) = some u := by
      intro j u hu
      obtain ⟨b, off, hh, hc⟩ := l4 j u hu
      injection hh with hh
      subst hh
      rw [Go.WideShapes.add_plain]
      exact hc
    obtain ⟨v', w', hr, h2, h3, _, h5⟩ := run_append_own_at (P := P) W base t ty e i z size bytes ht hi hz hsize hby hzs hsz v n xs hown a m c news l3 hnews h1 h63 hbytes hbase
    obtain ⟨A', c', rfl, _⟩ := own_form h2
    exact ⟨A', c', w', hr, h2, h3, h5⟩
theorem wp_append_sl {o : Oper} {a : Act} {K : Act → World → Prop} {Q : Exit → Act → World → Prop} (s x : Operand) (t : TypeId)
    (ho : o.op = .call { callee := .builtin .append, args := #[s, x], argTypes := #[t, t] })
    (base : Nat) (e : TypeId) (i : TypeInfo) (z : Value) (size bytes : Nat) (ht : P.underlying t = some (.slice e)) (hi : P.info? e = some i) (hz : i.zero = some z)
    (hsize : i.size = size) (hby : i.bytes = bytes) (hzs : z.cells.size = size) (hsz : 0 < size)
    (v : Value) (n : Nat) (xs : List Value) (hs : a.eval s = v) (hown : W.ownsRow base e size v n xs) (vx : Value) (m : Nat) (news : List Value) (hxe : a.eval x = vx) (hx : SL W size vx m news) (h1 : ∀ u ∈ news, u.oneCell' = true)
    (h63 : n + m ≤ maxLen) (hbytes : (n + m) * bytes ≤ 140737488355328) (hbase : base ≤ W.heap.size) (N : Nat) (hN : n + m = N)
    (h : ∀ A' c' w', w'.ownsRow base e size (.slice A' N c') N (xs ++ news) → W.grownBy w' v.ownBlock → ((Value.slice A' N c').ownBlock = v.ownBlock ∨ (Value.slice A' N c').ownBlock = some W.heap.size) → K (a.put o.dst (.slice A' N c')) w') : o.wp P a W K Q := by
  subst hN
  obtain ⟨A', c', w', hr, h2, h3, h4⟩ := run_append_sl (P := P) W base t o.type e i z size bytes ht hi hz hsize hby hzs hsz v n xs hown vx m news hx h1 h63 hbytes hbase
  unfold Oper.wp execOp
  simp only [ho, resolve, invoke, builtin, Sem.run_bind, Sem.run_pure, Result.andThen_ok, List.map_toArray, List.map_cons, List.map_nil, hs, hxe, hr]
  exact h A' c' w' h2 h3 h4
theorem wpList_append_sl {ops : Array Oper} {rest : List Oper} {o : Oper} {a : Act} {Q : Exit → Act → World → Prop} (hgd : o.guard = none) (s x : Operand) (t : TypeId)
    (ho : o.op = .call { callee := .builtin .append, args := #[s, x], argTypes := #[t, t] })
    (base : Nat) (e : TypeId) (i : TypeInfo) (z : Value) (size bytes : Nat) (ht : P.underlying t = some (.slice e)) (hi : P.info? e = some i) (hz : i.zero = some z)
    (hsize : i.size = size) (hby : i.bytes = bytes) (hzs : z.cells.size = size) (hsz : 0 < size)
    (v : Value) (n : Nat) (xs : List Value) (hs : a.eval s = v) (hown : W.ownsRow base e size v n xs) (vx : Value) (m : Nat) (news : List Value) (hxe : a.eval x = vx) (hx : SL W size vx m news) (h1 : ∀ u ∈ news, u.oneCell' = true)
    (h63 : n + m ≤ maxLen) (hbytes : (n + m) * bytes ≤ 140737488355328) (hbase : base ≤ W.heap.size) (N : Nat) (hN : n + m = N)
    (h : ∀ A' c' w', w'.ownsRow base e size (.slice A' N c') N (xs ++ news) → W.grownBy w' v.ownBlock → ((Value.slice A' N c').ownBlock = v.ownBlock ∨ (Value.slice A' N c').ownBlock = some W.heap.size) → wpList P ops Q rest (a.put o.dst (.slice A' N c')) w') :
    wpList P ops Q (o :: rest) a W :=
  wpList_plain hgd fun _ hK => wp_append_sl W s x t ho base e i z size bytes ht hi hz hsize hby hzs hsz v n xs hs hown vx m news hxe hx h1 h63 hbytes hbase N hN fun A' c' w' h2 h3 h4 => hK _ _ (h A' c' w' h2 h3 h4)
theorem step_append_sl {ops : Array Oper} {o : Oper} {a : Act} {K : Act → World → Prop} {Q : Exit → Act → World → Prop} {E : Prop} (hgd : o.guard = none) (s x : Operand) (t : TypeId)
    (ho : o.op = .call { callee := .builtin .append, args := #[s, x], argTypes := #[t, t] })
    (base : Nat) (e : TypeId) (i : TypeInfo) (z : Value) (size bytes : Nat) (ht : P.underlying t = some (.slice e)) (hi : P.info? e = some i) (hz : i.zero = some z)
    (hsize : i.size = size) (hby : i.bytes = bytes) (hzs : z.cells.size = size) (hsz : 0 < size)
    (v : Value) (n : Nat) (xs : List Value) (hs : a.eval s = v) (hown : W.ownsRow base e size v n xs) (vx : Value) (m : Nat) (news : List Value) (hxe : a.eval x = vx) (hx : SL W size vx m news) (h1 : ∀ u ∈ news, u.oneCell' = true)
    (h63 : n + m ≤ maxLen) (hbytes : (n + m) * bytes ≤ 140737488355328) (hbase : base ≤ W.heap.size) (N : Nat) (hN : n + m = N)
    (h : ∀ A' c' w', w'.ownsRow base e size (.slice A' N c') N (xs ++ news) → W.grownBy w' v.ownBlock → ((Value.slice A' N c').ownBlock = v.ownBlock ∨ (Value.slice A' N c').ownBlock = some W.heap.size) → K (a.put o.dst (.slice A' N c')) w') :
    if Region.wanted o (yielded ops a.tmps) = true then Oper.wp P o a W K Q else E := by
  have hw : Region.wanted o (yielded ops a.tmps) = true := by simp [Region.wanted, hgd]
  rw [if_pos hw]
  exact wp_append_sl W s x t ho base e i z size bytes ht hi hz hsize hby hzs hsz v n xs hs hown vx m news hxe hx h1 h63 hbytes hbase N hN h
end
end Go.Proofs.YtnjmgknicffcbaaGreatDoor
namespace Go.Proofs.YtnjmgknicffcbaaGreatDoor
open Go.RowKit

section
variable {α : Type}
theorem rows_len (g : α → List Value) (k : Nat) (hg : ∀ x, (g x).length = k) (L : List α) : (L.flatMap g).length = L.length * k := by
  induction L with
  | nil => simp
  | cons x r ih => rw [List.flatMap_cons, List.length_append, ih, hg, List.length_cons, Nat.add_mul, Nat.one_mul, Nat.add_comm]
theorem rows_at (g : α → List Value) (k : Nat) (hg : ∀ x, (g x).length = k) (L : List α) (q r : Nat) (hq : q < L.length) (hr : r < k) : (L.flatMap g)[q * k + r]? = (g L[q])[r]? := by
  induction L generalizing q with
  | nil => exact absurd hq (by simp)
  | cons x l ih =>
    rw [List.flatMap_cons]
    cases q with
    | zero =>
      rw [Nat.zero_mul, Nat.zero_add, List.getElem?_append_left (by rw [hg]; exact hr)]
      rfl
    | succ q =>
      rw [List.getElem?_append_right (by rw [hg, Nat.succ_mul]; omega), hg, show (q + 1) * k + r - k = q * k + r by rw [Nat.succ_mul]; omega, ih q (by simpa using hq)]
      rfl
theorem rows_of (g : α → List Value) (k : Nat) (hg : ∀ x, (g x).length = k) (hk : 0 < k) (L : List α) (j : Nat) (u : Value) (h : (L.flatMap g)[j]? = some u) : ∃ (q r : Nat) (hq : q < L.length), r < k ∧ j = q * k + r ∧ (g L[q])[r]? = some u := by
  obtain ⟨hj, _⟩ := List.getElem?_eq_some_iff.1 h
  rw [rows_len g k hg] at hj
  have hr := Nat.mod_lt j hk
  have hd := Nat.div_add_mod j k
  rw [Nat.mul_comm] at hd
  have hq : j / k < L.length := by rw [Nat.div_lt_iff_lt_mul hk]; exact hj
  refine ⟨j / k, j % k, hq, hr, hd.symm, ?_⟩
  rw [← rows_at g k hg L _ _ hq hr, hd]
  exact h
theorem rows_take (g : α → List Value) (k : Nat) (hg : ∀ x, (g x).length = k) (L : List α) (q : Nat) : (L.flatMap g).take (q * k) = (L.take q).flatMap g := by
  induction L generalizing q with
  | nil => simp
  | cons x l ih =>
    cases q with
    | zero => simp
    | succ q => rw [List.flatMap_cons, List.take_succ_cons, List.flatMap_cons, List.take_append, hg, show (q + 1) * k - k = q * k by rw [Nat.succ_mul]; omega, ih, List.take_of_length_le (by rw [hg, Nat.succ_mul]; omega)]
theorem rows_set (g : α → List Value) (k : Nat) (hg : ∀ x, (g x).length = k) (L : List α) (q r : Nat) (hq : q < L.length) (hr : r < k) (y : α) (u : Value) (hy : g y = (g L[q]).set r u) : (L.flatMap g).set (q * k + r) u = (L.set q y).flatMap g := by
  induction L generalizing q with
  | nil => exact absurd hq (by simp)
  | cons x l ih =>
    cases q with
    | zero =>
      rw [List.set_cons_zero, List.flatMap_cons, List.flatMap_cons, Nat.zero_mul, Nat.zero_add, List.set_append_left _ _ (by rw [hg]; exact hr), hy]
      rfl
    | succ q =>
      rw [List.set_cons_succ, List.flatMap_cons, List.flatMap_cons, List.set_append_right _ _ (by rw [hg, Nat.succ_mul]; omega), hg, show (q + 1) * k + r - k = q * k + r by rw [Nat.succ_mul]; omega, ih q (by simpa using hq) hy]
end

theorem own_far {w : World} {B : Nat} {t : TypeId} {size : Nat} {v : Value} {n : Nat} {xs : List Value} (h : w.ownsRow B t size v n xs) {b : Nat} (hb : b < B) : some b ≠ v.ownBlock := fun e => by have := (h.lt b e.symm).1; omega
/-- Nothing that was there has changed, but the block r. -/
def Kp (r : Option Nat) (w w' : World) : Prop := w.grownBy w' r
theorem Kp.size {r : Option Nat} {w w' : World} (h : Kp r w w') : w.heap.size ≤ w'.heap.size := World.grownBy.size h
theorem Kp.of_gr {r : Option Nat} {w w' : World} (h : Gr w w') : Kp r w w' := ⟨h.os, h.tape, h.output, h.size, fun k hk _ => h.block k hk⟩
theorem Kp.refl (r : Option Nat) (w : World) : Kp r w w := Kp.of_gr (Gr.refl w)
theorem Kp.gr {r : Option Nat} {a b c : World} (h : Kp r a b) (k : Gr b c) : Kp r a c :=
  ⟨k.os.trans h.os, k.tape.trans h.tape, k.output.trans h.output, Nat.le_trans h.size k.size, fun i hi hr => (k.block i (Nat.lt_of_lt_of_le hi h.size)).trans (h.block i hi hr)⟩
theorem Kp.trans {r : Option Nat} {a b c : World} (h : Kp r a b) (k : Kp r b c) : Kp r a c := World.grownBy.trans h k
theorem Kp.drew {r : Option Nat} {a b : World} (h : Kp r a b) : Kp r a b.drew := h.gr (Gr.refl _).drew
theorem Kp.drewN {r : Option Nat} {a b : World} (h : Kp r a b) (n : Nat) : Kp r a (b.drewN n) := h.gr ((Gr.refl _).drewN n)
theorem Kp.set {r : Option Nat} {a b : World} (h : Kp r a b) {g : Nat} (hg : a.heap.size ≤ g ∨ r = some g) (i : Nat) (u : Value) : Kp r a (b.setCell ⟨g, i, none⟩ u) := by
  refine ⟨h.os, h.tape, h.output, by simpa [World.setCell] using h.size, fun k hk hr => ?_⟩
  rw [← h.block k hk hr]
  refine Below.heap_setCell b ⟨g, i, none⟩ u k ?_
  rcases hg with hg | hg
  · show k ≠ g; omega
  · rintro rfl
    exact hr hg.symm
theorem Kp.below {r : Option Nat} {a b : World} {B : Nat} (h : Kp r a b) (hB : B ≤ a.heap.size) (hr : ∀ g, r = some g → B ≤ g) : Below B a b :=
  ⟨h.os, h.tape, h.output, h.size, fun k hk => h.block k (by omega) (fun e => by have := hr k e.symm; omega)⟩
theorem Kp.cell {r : Option Nat} {a b : World} (h : Kp r a b) {p : Addr} {v : Value} (hc : a.cell? p = some v) (hr : some p.block ≠ r) : b.cell? p = some v := World.grownBy.cell h hc hr
theorem Kp.frozen {r : Option Nat} {a b : World} (h : Kp r a b) {p : Addr} (hlt : p.block < a.heap.size) (hr : some p.block ≠ r) : b.frozen? p = a.frozen? p := World.grownBy.frozen_far h p hlt hr
section
variable {w : World} {B : Nat} {t : TypeId} {g n c : Nat} {xs : List Value}
theorem own_len {size : Nat} (h : w.ownsRow B t size (.slice (some ⟨g, 0, none⟩) n c) n xs) : n ≤ c ∧ c ≤ 9223372036854775807 ∧ B ≤ g ∧ g < w.heap.size := by
  rcases h.2 with ⟨hh, _⟩ | ⟨g', cap', cur, hh, hb, hg, hn, hm, _⟩
  · cases hh
  · injection hh with h1 h2 h3
    injection h1 with h1
    injection h1 with h1
    subst h1 h3
    exact ⟨hn, hm, hb, (Array.getElem?_eq_some_iff.1 hg).1⟩
/-- Rows of unlike element types lie apart. -/
theorem own_types {size size' n' : Nat} {t' : TypeId} {v v' : Value} {ys : List Value} (h : w.ownsRow B t size v n xs) (h' : w.ownsRow B t' size' v' n' ys) (ht : t ≠ t') {b : Nat} (e : v.ownBlock = some b) : v'.ownBlock ≠ some b := by
  intro e'
  rcases h.2 with ⟨rfl, _⟩ | ⟨g, cap, cur, rfl, _, hg, _⟩
  · simp [Value.ownBlock] at e
  · rcases h'.2 with ⟨rfl, _⟩ | ⟨g', cap', cur', rfl, _, hg', _⟩
    · simp [Value.ownBlock] at e'
    · have e1 : g = b := by simpa [Value.ownBlock] using e
      have e2 : g' = b := by simpa [Value.ownBlock] using e'
      subst e1 e2
      rw [hg] at hg'
      injection hg' with hh
      injection hh with _ hh
      exact ht hh
end
theorem own_prefix {w : World} {B : Nat} {t : TypeId} {size g n c k : Nat} {xs : List Value} (h : w.ownsRow B t size (.slice (some ⟨g, 0, none⟩) n c) n xs) (hk : k ≤ n) : w.ownsRow B t size (.slice (some ⟨g, 0, none⟩) k c) k (xs.take (k * size)) := by
  have hkn : k * size ≤ n * size := Nat.mul_le_mul_right _ hk
  refine ⟨by rw [List.length_take, h.1]; omega, ?_⟩
  rcases h.2 with ⟨hh, _⟩ | ⟨g', cap, cur, hh, hb, hg, hn, hm, hc, ht⟩
  · cases hh
  · injection hh with e1 e2 e3
    injection e1 with e1
    injection e1 with e1
    subst e1 e3
    refine .inr ⟨g, c, cur, rfl, hb, hg, by omega, hm, hc, ?_⟩
    rw [← ht, List.take_take, Nat.min_eq_left hkn]
theorem slice_from_g {P : Program} (t : TypeId) (size : Nat) (he : P.underlying t = some (.slice (P.elem t))) (hz : ∀ W : World, (sizeOf (P.elem t)).run P W = .ok size W) (n c k : Nat) (hk : k ≤ n) (A : Option Addr) :
    ∀ W : World, (Instr.slice t (.slice A n c) (some (.int .i64 (k : Int))) none none).run P W = .ok (sliced A k n c size) W := by
  intro W
  rw [run_slice_l W _ A n c he .i64 (k : Int) (by omega) (by omega), hz]
  rfl
theorem slice_to_g {P : Program} (t : TypeId) (size : Nat) (he : P.underlying t = some (.slice (P.elem t))) (hz : ∀ W : World, (sizeOf (P.elem t)).run P W = .ok size W) (n c k : Nat) (hk : k ≤ c) (A : Option Addr) :
    ∀ W : World, (Instr.slice t (.slice A n c) none (some (.int .i64 (k : Int))) none).run P W = .ok (.slice A k c) W := by
  intro W
  rw [run_slice_h W _ A n c he .i64 (k : Int) (by omega) (by omega), hz]
  show Result.ok (sliced A 0 (k : Int).toNat c size) W = _
  unfold sliced
  rw [Int.toNat_natCast]
  cases A with
  | none => simp
  | some a => simp [Addr.add]
end Go.Proofs.YtnjmgknicffcbaaGreatDoor
