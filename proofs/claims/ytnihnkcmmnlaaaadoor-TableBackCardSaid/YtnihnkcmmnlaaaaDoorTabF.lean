/- Reading a table's blocks: rows of pairs beside rows of strings, the invariants; walk: inBlocks. -/
import Derived.Test.YtnihnkcmmnlaaaaDoorTabE
import Derived.Test.YtnihnkcmmnlaaaaDoorRUnpack
import Derived.Test.YtnihnkcmmnlaaaaDoorCodeF
namespace Go.Proofs.YtnihnkcmmnlaaaaDoor
open Go.RowKit

theorem SO.grown {w w' : World} {B : Nat} {v : Value} {L : List ByteArray} {row : Option Nat} (h : SO w B v L) (hg : w.grownBy w' row) (hr : ∀ g, row = some g → ∃ c fz, w.heap[g]? = some (.cells c 25 fz)) : SO w' B v L := by
  obtain ⟨h0, h1⟩ := h
  refine ⟨h0, ?_⟩
  rcases h1 with h1 | ⟨g, cap, cur, hv, hB, hh, h2⟩
  · exact .inl h1
  · refine .inr ⟨g, cap, cur, hv, hB, ?_, h2⟩
    rw [hg.block g (Array.getElem?_eq_some_iff.1 hh).1 ?_]
    · exact hh
    · intro e
      obtain ⟨c, fz, hc⟩ := hr g e.symm
      rw [hh] at hc
      injection hc with hc
      injection hc with _ hc
      revert hc
      decide
theorem PO.kind {w : World} {B : Nat} {v : Value} {L : List PR} (h : PO w B v L) : ∀ g, v.ownBlock = some g → ∃ c fz, w.heap[g]? = some (.cells c 25 fz) := by
  intro g hg
  rcases h.2 with ⟨rfl, _⟩ | ⟨g', cap, cur, rfl, _, hgg, _⟩
  · simp [Value.ownBlock] at hg
  · simp [Value.ownBlock] at hg
    subst hg
    exact ⟨cur, _, hgg⟩
theorem pv_one (w : World) (x y : ByteArray) (b : Nat) (hb : b = w.heap.size) : PV (w.alloc (.cells #[.string x, .string y] 25)) (.slice (some ⟨b, 0, none⟩) 1 1) [⟨x, y⟩] := by
  subst hb
  refine ⟨_, 1, rfl, Nat.le_refl _, ⟨by decide, fun h => by cases h⟩, fun j hj => ⟨w.heap.size, 0, rfl, ?_⟩⟩
  obtain rfl : j = 0 := by simpa using hj
  exact ⟨by rw [World.cell?_alloc_mark]; rfl, by rw [World.cell?_alloc_mark]; rfl⟩
section
variable {ops : Array Oper} {o : Oper} {a : Act} {W w0 : World} {K : Act → World → Prop} {Q : Exit → Act → World → Prop} {E : Prop}
theorem step_push_pairs (hgd : o.guard = none) (s x : Operand)
    (ho : o.op = .call { callee := .builtin .append, args := #[s, x], argTypes := #[22, 22] })
    (v vx : Value) (L M : List PR) (n m : Nat) (hn : n = L.length) (hm : m = M.length) (hs : a.eval s = v) (hown : PO W w0.heap.size v L) (hx : a.eval x = vx) (hxv : PV W vx M) (hlen : (n + m) * 32 ≤ 140737488355328) (hg : Gr w0 W)
    (h : ∀ A' c' w', PO w' w0.heap.size (.slice A' (n + m) c') (L ++ M) → Gr w0 w' → (∀ B u F, SO W B u F → SO w' B u F) → K (a.put o.dst (.slice A' (n + m) c')) w') :
    if Region.wanted o (yielded ops a.tmps) = true then Oper.wp Tryd.prog o a W K Q else E := by
  subst hn hm
  obtain ⟨i0, hi, hz0, hz1, hz2⟩ := info_parts infoPair
  have hsz := hg.size
  refine step_append_sl W hgd s x 22 ho w0.heap.size 25 i0 _ 2 32 Tryd.underlying22 hi hz0 hz1 hz2 rfl (by decide) v L.length (pcells L) hs hown vx M.length (pcells M) hx
    hxv.sl (pcells_one M) (by unfold maxLen; omega) hlen hsz (L.length + M.length) rfl ?_
  intro A' c' w' hown' hgr _
  refine h A' c' w' ?_ (gr_of_grown hg hown hgr hsz) (fun B u F hs => hs.grown hgr hown.kind)
  unfold PO
  rw [List.length_append]
  unfold pcells at hown' ⊢
  rw [List.flatMap_append]
  exact hown'
end

/-- Behind k bodies. -/
structure InInv (H : List (List UInt8)) (k : Nat) (acc : List PR) : Prop where
  all : readAll H = (readAll (H.drop k)).map (acc ++ ·)
  small : ∀ p ∈ acc, p.key.size ≤ 65536 ∧ p.val.size ≤ 65536
  len : acc.length ≤ k * 2048
theorem InInv.start (H : List (List UInt8)) : InInv H 0 [] := ⟨by simp, fun p h => by (cases h), Nat.zero_le _⟩
theorem InInv.bad {H : List (List UInt8)} {k : Nat} {acc : List PR} (h : InInv H k acc) (hk : k < H.length) (hb : bodyPairs H[k] = none) : readAll H = none := by
  rw [h.all, List.drop_eq_getElem_cons hk, readAll_none hb]
  rfl
theorem InInv.fin {H : List (List UInt8)} {k : Nat} {acc : List PR} (h : InInv H k acc) (hk : k = H.length) : readAll H = some acc := by
  rw [h.all, hk, List.drop_length]
  simp [readAll]
theorem bytes_mem {H : List (List UInt8)} {b : List UInt8} (h : b ∈ H) : b.length ≤ bytesOf H := by
  induction H with
  | nil => cases h
  | cons x H ih =>
    simp only [bytesOf]
    rcases List.mem_cons.1 h with rfl | h
    · omega
    · have := ih h
      omega
theorem fields_small {b : List UInt8} {fs : List (List UInt8)} (h : unpackL b = some fs) : fs.length ≤ 4096 ∧ ∀ s ∈ fs.map bs, s.size ≤ 65536 := by
  have := (unpack_back h).1
  exact ⟨by have := this.1; rwa [List.length_map] at this, this.2.1⟩
theorem pairUp_small : ∀ (F : List ByteArray) (n : Nat), (∀ s ∈ F, s.size ≤ n) → ∀ p ∈ pairUp F, p.key.size ≤ n ∧ p.val.size ≤ n
  | [], n, _, p, hp => by cases hp
  | [_], n, _, p, hp => by cases hp
  | k :: v :: r, n, h, p, hp => by
    rcases List.mem_cons.1 hp with rfl | hp
    · exact ⟨h _ (by simp), h _ (by simp)⟩
    · exact pairUp_small r n (fun s hs => h s (by simp [hs])) p hp
theorem InInv.step {H : List (List UInt8)} {k : Nat} {acc : List PR} (h : InInv H k acc) (hk : k < H.length) {fs : List (List UInt8)} (hu : unpackL H[k] = some fs) (he : fs.length % 2 = 0) : InInv H (k + 1) (acc ++ pairUp (fs.map bs)) := by
  obtain ⟨h1, h2⟩ := fields_small hu
  have hl : (pairUp (fs.map bs)).length ≤ 2048 := by rw [pairUp_len _ (by rw [List.length_map]; exact he), List.length_map]; omega
  refine ⟨?_, ?_, ?_⟩
  · rw [h.all, List.drop_eq_getElem_cons hk, readAll_some (bodyPairs_some hu he), Option.map_map]
    congr 1
    funext x
    simp
  · intro p hp
    rcases List.mem_append.1 hp with hp | hp
    · exact h.small p hp
    · exact pairUp_small _ _ h2 p hp
  · rw [List.length_append]
    have := h.len
    omega
theorem pairUp_take : ∀ (t j : Nat) (F : List ByteArray) (_ : j = 2 * t) (h : j + 1 < F.length), pairUp (F.take (j + 2)) = pairUp (F.take j) ++ [⟨F[j], F[j + 1]⟩]
  | 0, _, k :: v :: r, rfl, _ => by simp [pairUp]
  | t + 1, j, k :: v :: r, hj, h => by
    obtain ⟨i, rfl⟩ : ∃ i, j = i + 2 := ⟨j - 2, by omega⟩
    have := pairUp_take t i r (by omega) (by simp only [List.length_cons] at h; omega)
    show _ :: pairUp (r.take (i + 2)) = _ :: pairUp (r.take i) ++ _
    rw [this]
    rfl
theorem pairUp_take_len (t : Nat) (F : List ByteArray) (h : 2 * t ≤ F.length) : (pairUp (F.take (2 * t))).length = t := by
  rw [pairUp_len _ (by rw [List.length_take]; omega), List.length_take]; omega

/-- What inBlocks answers. -/
def RetIn (o : Option (List PR)) (w : World) (e : Ending) (w' : World) : Prop :=
  match o with
  | none => e = .returned (.tuple #[.slice none 0 0, .bool false]) ∧ Gr w w'
  | some L => ∃ v, e = .returned (.tuple #[v, .bool true]) ∧ PO w' w.heap.size v L ∧ (∀ p ∈ L, p.key.size ≤ 65536 ∧ p.val.size ≤ 65536) ∧ L.length ≤ 1000000000 ∧ Gr w w'
def PIRel (H : List (List UInt8)) (B1 : Nat) (vh : Value) (F : List ByteArray) (w : World) (vp i : Value) (wr : World) : Prop :=
  ∃ (k : Nat) (acc : List PR), i = .int .i64 (k : Int) ∧ k ≤ H.length ∧ InInv H k acc ∧ PO wr w.heap.size vp acc ∧ SO wr B1 vh F ∧ Gr w wr
def PJRel (acc : List PR) (B1 : Nat) (vh : Value) (H : List ByteArray) (B2 : Nat) (vf : Value) (F : List ByteArray) (w : World) (vp i : Value) (wr : World) : Prop :=
  ∃ t : Nat, i = .int .i64 ((2 * t : Nat) : Int) ∧ 2 * t ≤ F.length ∧ PO wr w.heap.size vp (acc ++ pairUp (F.take (2 * t))) ∧ SO wr B1 vh H ∧ SO wr B2 vf F ∧ Gr w wr
abbrev QF (g a j : Nat) (x y : ByteArray) (w0 w' : World) : Prop := w'.cell? ⟨g, a + j, none⟩ = some (.string x) ∧ w'.cell? ⟨g, a + (j + 1), none⟩ = some (.string y) ∧ Gr w0 w'
theorem QF.gr {g a j : Nat} {x y : ByteArray} {w0 w1 w2 : World} (h : QF g a j x y w0 w1) (q : Gr w1 w2) : QF g a j x y w0 w2 := ⟨q.cell h.1, q.cell h.2.1, h.2.2.trans q⟩
theorem elemStr : Tryd.prog.underlying 47 = some (.slice (Tryd.prog.elem 47)) ∧ Tryd.prog.elem 47 = 9 := ⟨by kernel_rfl, by kernel_rfl⟩
theorem sizeStr : ∀ W : World, (sizeOf 9).run Tryd.prog W = .ok 1 W := fun W => by kernel_rfl
theorem slice_strs_to (n c k : Nat) (hk : k ≤ c) (A : Option Addr) : ∀ W : World, (Instr.slice 47 (.slice A n c) none (some (.int .i64 (k : Int))) none).run Tryd.prog W = .ok (.slice A k c) W := by
  intro W
  rw [run_slice_h W _ A n c elemStr.1 .i64 (k : Int) (by omega) (by omega), elemStr.2, sizeStr]
  show Result.ok (sliced A 0 (k : Int).toNat c 1) W = _
  unfold sliced
  rw [Int.toNat_natCast]
  cases A with
  | none => simp
  | some a => simp [Addr.add]
theorem SV.cell {w : World} {A : Option Addr} {n c : Nat} {L : List ByteArray} (h : SV w (.slice A n c) L) : ∀ j (hj : j < L.length), ∃ b off, A = some ⟨b, off, none⟩ ∧ w.cell? ⟨b, off + j, none⟩ = some (.string L[j]) := by
  obtain ⟨A', c', hv, _, _, h3⟩ := h
  injection hv with e1 _ _
  subst e1
  exact h3
theorem qf_of {w0 w' : World} {B g a n c j : Nat} {F : List ByteArray} {x y : ByteArray} (h : SO w' B (.slice (some ⟨g, a, none⟩) n c) F) (hj : j + 1 < F.length) (hx : x = F[j]) (hy : y = F[j + 1]) (q : Gr w0 w') : QF g a j x y w0 w' := by
  obtain ⟨b, off, e, h1⟩ := h.sv.cell j (by omega)
  injection e with e
  injection e with e1 e2 _
  subst e1 e2
  obtain ⟨b', off', e', h2⟩ := h.sv.cell (j + 1) hj
  injection e' with e'
  injection e' with e1 e2 _
  subst e1 e2
  subst hx hy
  exact ⟨h1, h2, q⟩
end Go.Proofs.YtnihnkcmmnlaaaaDoor
