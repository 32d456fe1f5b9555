/- Walks: a crash, the program's. Walks: a crash, the document's. Walks: a file more, the document's. Walks: one operation, the document's. Walks: one operation, the document's: the other ways. Walks: one operation, the document's: a file less, a file more. Walks: the operations in order, the document's. Walks: the segments of a log, the program's. -/
import Derived.Test.YtccjkfccklfjkaaGreatDoorZs12
import Derived.Deep.DeepCutAuto
import Derived.Deep.Cut
import Derived.IntWalk
import Derived.Deep.RegionHeld3
import Derived.Test.YtccjkfccklfjkaaGreatDoorZs04
namespace Go.Proofs.YtccjkfccklfjkaaGreatDoor
open Go.RowKit

/-- The slice value v reads as the numbers K. -/
def IV (w : World) (v : Value) (K : List Int) : Prop :=
  ∃ A c, v = .slice A K.length c ∧ K.length ≤ c ∧ c ≤ maxLen ∧ ∀ j (hj : j < K.length), ∃ b off, A = some ⟨b, off, none⟩ ∧ w.cell? ⟨b, off + j, none⟩ = some (.int .i64 K[j]) ∧ -9223372036854775808 ≤ K[j] ∧ K[j] ≤ 9223372036854775807
theorem IV.gr {w w' : World} {v : Value} {K : List Int} (h : IV w v K) (g : Gr w w') : IV w' v K := by
  obtain ⟨A, c, hv, h1, h2, h3⟩ := h
  refine ⟨A, c, hv, h1, h2, fun j hj => ?_⟩
  obtain ⟨b, off, ha, hc, hb⟩ := h3 j hj
  exact ⟨b, off, ha, g.cell hc, hb⟩

/-- The first k files behind the crash, the others ahead of it. -/
def mix (L : List F) (K : List Int) (k : Nat) : List F := L.mapIdx fun i f => if i < k then crashAt f K i else f
def CrashRel (L : List F) (K : List Int) (v1 : Value) (w : World) (i : Value) (wr : World) : Prop :=
  ∃ k : Nat, k ≤ L.length ∧ i = .int .i64 k ∧ FO wr (w.heap.size + 1 + 1) v1 (mix L K k) ∧ Gr w wr ∧ w.heap.size + 1 < wr.heap.size ∧ wr.cell? ⟨w.heap.size, 0, none⟩ = some v1 ∧ wr.cell? ⟨w.heap.size + 1, 0, none⟩ = some (.slice none 0 0) ∧ wr.frozen? ⟨w.heap.size + 1, 0, none⟩ = false

theorem CrashRel.drew {L : List F} {K : List Int} {v1 : Value} {w wr : World} {i : Value} (h : CrashRel L K v1 w i wr) : CrashRel L K v1 w i wr.drew := by
  obtain ⟨k, h1, h2, h3, h4, h5, h6, h7, h8⟩ := h
  exact ⟨k, h1, h2, h3.gr (Gr.refl _).drew, h4.drew, h5, h6, h7, h8⟩
end Go.Proofs.YtccjkfccklfjkaaGreatDoor
namespace Go.Proofs.YtccjkfccklfjkaaGreatDoor
open Go.RowKit

def RCrashRel (L : List F) (K : List Int) (v1 : Value) (bx : Nat) (w : World) (i : Value) (wr : World) : Prop :=
  ∃ k : Nat, k ≤ L.length ∧ i = .int .i64 k ∧ FO wr (w.heap.size + 1 + 1) v1 (mix L K k) ∧ Gr w wr ∧ bx < wr.heap.size ∧ wr.cell? ⟨bx, 0, none⟩ = some v1 ∧ wr.cell? ⟨w.heap.size + 1, 0, none⟩ = some (.slice none 0 0) ∧ wr.frozen? ⟨w.heap.size + 1, 0, none⟩ = false
theorem RCrashRel.drew {L : List F} {K : List Int} {v1 : Value} {bx : Nat} {w wr : World} {i : Value} (h : RCrashRel L K v1 bx w i wr) : RCrashRel L K v1 bx w i wr.drew := by
  obtain ⟨k, h1, h2, h3, h4, h5, h6, h7, h8⟩ := h
  exact ⟨k, h1, h2, h3.gr (Gr.refl _).drew, h4.drew, h5, h6, h7, h8⟩
end Go.Proofs.YtccjkfccklfjkaaGreatDoor
namespace Go.Proofs.YtccjkfccklfjkaaGreatDoor
open Go.RowKit

theorem FV.sl {w : World} {v : Value} {L : List F} (h : FV w v L) : SL w 3 v L.length (fcells L) := by
  obtain ⟨A, c, rfl, h1, h2, h3⟩ := h
  refine ⟨A, c, rfl, h1, h2, fcells_len L, fun j u hu => ?_⟩
  obtain ⟨q, r, hq, hr, rfl, hg⟩ := rows_of fcell 3 fcell_len (by decide) L j u hu
  obtain ⟨b, off, hh, c0, c1, c2⟩ := h3 q hq
  refine ⟨b, off, hh, ?_⟩
  match r, hr with
  | 0, _ =>
    have : (Value.string L[q].name) = u := by simpa [fcell] using hg
    rw [← this, show off + (q * 3 + 0) = off + q * 3 by omega]
    exact c0
  | 1, _ =>
    have : (Value.string L[q].kept) = u := by simpa [fcell] using hg
    rw [← this, show off + (q * 3 + 1) = off + q * 3 + 1 by omega]
    exact c1
  | 2, _ =>
    have : (Value.string L[q].loose) = u := by simpa [fcell] using hg
    rw [← this, show off + (q * 3 + 2) = off + q * 3 + 2 by omega]
    exact c2
theorem elemFile : Tryz.prog.underlying 22 = some (.slice (Tryz.prog.elem 22)) ∧ Tryz.prog.elem 22 = 63 := ⟨by kernel_rfl, by kernel_rfl⟩
theorem sizeFile : ∀ W : World, (sizeOf 63).run Tryz.prog W = .ok 3 W := fun W => by kernel_rfl
def newF (nm : ByteArray) : F := ⟨nm, ⟨#[]⟩, ⟨#[]⟩⟩
end Go.Proofs.YtccjkfccklfjkaaGreatDoor
namespace Go.Proofs.YtccjkfccklfjkaaGreatDoor
open Go.RowKit
set_option linter.unusedVariables false

def FitO (o : O) : Prop := (-9223372036854775808 ≤ o.kind ∧ o.kind ≤ 9223372036854775807) ∧ (-9223372036854775808 ≤ o.at_ ∧ o.at_ ≤ 9223372036854775807) ∧ o.name.size ≤ 9223372036854775807 ∧ o.bytes.size ≤ 281474976710656
/-- What one operation answers: the disk behind it, and the error's number. -/
def RetOne (L : List F) (o : O) (B : Nat) (v : Value) (w : World) (e : Ending) (w' : World) : Prop :=
  ∃ v', e = .returned (.tuple #[.agg #[v'], .int .i64 ((step L o).1 : Int)]) ∧ FO w' B v' (step L o).2 ∧ Kp v.ownBlock w w' ∧ ((step L o).1 ≠ 0 → v' = v) ∧ ∀ g, v'.ownBlock = some g → v.ownBlock = some g ∨ w.heap.size ≤ g
/-- The three boxes that it begins with. -/
abbrev OneB (w : World) (A : Option Addr) (n c : Nat) (o : O) (W : World) : Prop :=
    W.cell? ⟨w.heap.size, 0, none⟩ = some (.slice A n c) ∧ W.cell? ⟨w.heap.size + 1, 0, none⟩ = some (.int .i64 o.kind) ∧ W.cell? ⟨w.heap.size + 1, 1, none⟩ = some (.string o.name) ∧ W.cell? ⟨w.heap.size + 1, 2, none⟩ = some (.string o.bytes) ∧ W.cell? ⟨w.heap.size + 1, 3, none⟩ = some (.int .i64 o.at_) ∧
    W.cell? ⟨w.heap.size + 1 + 1, 0, none⟩ = some (.slice none 0 0) ∧ W.frozen? ⟨w.heap.size + 1 + 1, 0, none⟩ = false ∧ W.frozen? ⟨w.heap.size, 0, none⟩ = false ∧ w.heap.size + 1 + 1 < W.heap.size
theorem OneB.gr {w : World} {A : Option Addr} {n c : Nat} {o : O} {W W' : World} (h : OneB w A n c o W) (g : Gr W W') : OneB w A n c o W' := by
  obtain ⟨h1, h2, h3, h4, h5, h6, h7, h8, h9⟩ := h
  exact ⟨g.cell h1, g.cell h2, g.cell h3, g.cell h4, g.cell h5, g.cell h6, g.frozen (show w.heap.size + 1 + 1 < _ by omega) h7, g.frozen (show w.heap.size < _ by omega) h8, Nat.lt_of_lt_of_le h9 g.size⟩
theorem FO.set {w : World} {B : Nat} {v : Value} {L : List F} (h : FO w B v L) {b : Nat} (hb : ∀ g, v.ownBlock = some g → g ≠ b) (i : Nat) (u : Value) : FO (w.setCell ⟨b, i, none⟩ u) B v L := by
  have hg : w.grownBy (w.setCell ⟨b, i, none⟩ u) (some b) := ⟨rfl, rfl, rfl, by simp [World.setCell], fun k _ hk => Below.heap_setCell w ⟨b, i, none⟩ u k (fun e => hk (by rw [e]))⟩
  refine World.ownsRow.kept h hg ?_
  rcases hv : v.ownBlock with _ | g
  · exact .inl rfl
  · exact .inr (fun e => hb g hv (by injection e))

theorem step_good {L : List F} {o : O} (h1 : 1 ≤ o.kind) (h4 : o.kind ≤ 4) (hn : nameOk o.name = true) : step L o = stepAt L o (findF L o.name) := by
  unfold step
  rw [if_neg]
  rintro (h | h | h)
  · omega
  · omega
  · rw [hn] at h; cases h
theorem stepAt_some {L : List F} {o : O} {i : Nat} (h : i < L.length) : stepAt L o i =
    (if o.kind = 1 then
      if 1048576 < L[i].size + o.bytes.size then (2, L)
      else (0, L.set i ⟨L[i].name, L[i].kept, L[i].loose ++ o.bytes⟩)
    else if o.kind = 2 then (0, L.set i ⟨L[i].name, L[i].kept ++ L[i].loose, ⟨#[]⟩⟩)
    else if o.kind = 3 then
      if o.at_ < 0 ∨ (L[i].size : Int) < o.at_ then (1, L)
      else (0, L.set i ⟨L[i].name, (L[i].kept ++ L[i].loose).extract 0 o.at_.toNat, ⟨#[]⟩⟩)
    else (0, L.eraseIdx i)) := by
  unfold stepAt
  rw [List.getElem?_eq_getElem h]
theorem stepAt_none {L : List F} {o : O} {i : Nat} (h : ¬ i < L.length) : stepAt L o i =
    (if o.kind = 1 then
      if 64 ≤ L.length then (4, L)
      else if 1048576 < o.bytes.size then (2, L)
      else (0, L.insertIdx (placeF L o.name) ⟨o.name, ⟨#[]⟩, o.bytes⟩)
    else (30, L)) := by
  unfold stepAt
  rw [List.getElem?_eq_none (by omega)]
end Go.Proofs.YtccjkfccklfjkaaGreatDoor
namespace Go.Proofs.YtccjkfccklfjkaaGreatDoor
open Go.RowKit
set_option linter.unusedVariables false

theorem RetOne.drew {L : List F} {o : O} {B : Nat} {v : Value} {w w' : World} {e : Ending} (h : RetOne L o B v w e w') : RetOne L o B v w e w'.drew := by
  obtain ⟨v', h1, h2, h3, h4, h5⟩ := h
  exact ⟨v', h1, h2.gr (Gr.refl _).drew, h3.drew, h4, h5⟩
theorem append_size' (x y : ByteArray) : (x ++ y).size = x.size + y.size := ByteArray.size_append

end Go.Proofs.YtccjkfccklfjkaaGreatDoor
namespace Go.Proofs.YtccjkfccklfjkaaGreatDoor
open Go.RowKit

theorem slice_to (n c k : Nat) (hk : k ≤ c) (A : Option Addr) : ∀ W : World, (Instr.slice 22 (.slice A n c) none (some (.int .i64 (k : Int))) none).run Tryz.prog W = .ok (.slice A k c) W := by
  intro W
  rw [run_slice_h W _ A n c elemFile.1 .i64 (k : Int) (by omega) (by omega), elemFile.2, sizeFile]
  show Result.ok (sliced A 0 (k : Int).toNat c 3) W = _
  unfold sliced
  rw [Int.toNat_natCast]
  cases A with
  | none => simp
  | some a => simp [Addr.add]
end Go.Proofs.YtccjkfccklfjkaaGreatDoor
namespace Go.Proofs.YtccjkfccklfjkaaGreatDoor
open Go.RowKit

/-- The slice value v reads as the operations. -/
def OCell (w : World) (b off : Nat) (o : O) : Prop :=
  w.cell? ⟨b, off, none⟩ = some (.int .i64 o.kind) ∧ w.cell? ⟨b, off + 1, none⟩ = some (.string o.name) ∧ w.cell? ⟨b, off + 2, none⟩ = some (.string o.bytes) ∧ w.cell? ⟨b, off + 3, none⟩ = some (.int .i64 o.at_)
def OV (w : World) (v : Value) (ops : List O) : Prop :=
  ∃ A c, v = .slice A ops.length c ∧ ops.length ≤ c ∧ (c ≤ maxLen ∧ (A = Option.none → c = 0)) ∧ ∀ j (hj : j < ops.length), ∃ b off, A = some ⟨b, off, none⟩ ∧ OCell w b (off + j * 4) ops[j]
theorem OV.gr {w w' : World} {v : Value} {ops : List O} (h : OV w v ops) (g : Gr w w') : OV w' v ops := by
  obtain ⟨A, c, hv, h1, h2, h3⟩ := h
  refine ⟨A, c, hv, h1, h2, fun j hj => ?_⟩
  obtain ⟨b, off, ha, hc⟩ := h3 j hj
  exact ⟨b, off, ha, g.cell hc.1, g.cell hc.2.1, g.cell hc.2.2.1, g.cell hc.2.2.2⟩
/-- What the operations in order answer. -/
def RetDo (L : List F) (ops : List O) (w : World) (e : Ending) (w' : World) : Prop :=
  ∃ v, e = .returned (.tuple #[.agg #[v], .int .i64 ((run L ops).2.1 : Int), .int .i64 ((run L ops).2.2 : Int)]) ∧ FO w' w.heap.size v (run L ops).1 ∧ Gr w w'

structure RDoInv (L : List F) (ops : List O) (bx k : Nat) (v : Value) (Lk : List F) (w wr : World) : Prop where
  hk : k ≤ ops.length
  hrun : run L ops = bump k (run Lk (ops.drop k))
  own : FO wr (w.heap.size + 1 + 1) v Lk
  fit : Fit Lk
  len : Lk.length ≤ max L.length 64
  gr : Gr w wr
  lo : w.heap.size + 1 < bx
  hi : bx < wr.heap.size
  ne : ∀ g, v.ownBlock = some g → g ≠ bx
  cb : wr.cell? ⟨bx, 0, none⟩ = some v
  fb : wr.frozen? ⟨bx, 0, none⟩ = false
  cr : wr.cell? ⟨w.heap.size + 1, 0, none⟩ = some (.slice none 0 0)
  fr : wr.frozen? ⟨w.heap.size + 1, 0, none⟩ = false
/-- What holds while one operation is done. -/
structure RDoT (bx h : Nat) (v : Value) (w w' : World) : Prop where
  gr : Gr w w'
  lo : w.heap.size + 1 < bx
  hi : bx < w'.heap.size
  sz : h ≤ w'.heap.size
  fb : w'.frozen? ⟨bx, 0, none⟩ = false
  cr : w'.cell? ⟨w.heap.size + 1, 0, none⟩ = some (.slice none 0 0)
  fr : w'.frozen? ⟨w.heap.size + 1, 0, none⟩ = false
abbrev RDoS (bx h : Nat) (v : Value) (b off k : Nat) (o : O) (w w' : World) : Prop :=
  w'.cell? ⟨bx, 0, none⟩ = some v ∧ w'.cell? ⟨b, off + k * 4, none⟩ = some (.int .i64 o.kind) ∧ w'.cell? ⟨b, off + k * 4 + 1, none⟩ = some (.string o.name) ∧ w'.cell? ⟨b, off + k * 4 + 2, none⟩ = some (.string o.bytes) ∧ w'.cell? ⟨b, off + k * 4 + 3, none⟩ = some (.int .i64 o.at_) ∧ RDoT bx h v w w'
theorem RDoT.grow {bx h : Nat} {v : Value} {w w1 w2 : World} (t : RDoT bx h v w w1) (g : Gr w1 w2) : RDoT bx h v w w2 :=
  ⟨t.gr.trans g, t.lo, Nat.lt_of_lt_of_le t.hi g.size, Nat.le_trans t.sz g.size, g.frozen t.hi t.fb, g.cell t.cr, g.frozen (show w.heap.size + 1 < _ by have := t.lo; have := t.hi; omega) t.fr⟩
theorem RDoS.gr {bx h b off k : Nat} {v : Value} {o : O} {w w1 w2 : World} (s : RDoS bx h v b off k o w w1) (g : Gr w1 w2) : RDoS bx h v b off k o w w2 :=
  ⟨g.cell s.1, g.cell s.2.1, g.cell s.2.2.1, g.cell s.2.2.2.1, g.cell s.2.2.2.2.1, s.2.2.2.2.2.grow g⟩
theorem RDoS.kp {bx h b off k : Nat} {v : Value} {o : O} {w w1 w2 : World} (s : RDoS bx h v b off k o w w1) (g : Kp v.ownBlock w1 w2) (hb : b < w.heap.size) (hlo : ∀ g, v.ownBlock = some g → w.heap.size + 1 < g) (hne : ∀ g, v.ownBlock = some g → g ≠ bx) : RDoS bx h v b off k o w w2 := by
  obtain ⟨h0, h1, h2, h3, h4, t⟩ := s
  have n1 : some b ≠ v.ownBlock := fun e => by have := hlo b e.symm; omega
  have n2 : some bx ≠ v.ownBlock := fun e => hne bx e.symm rfl
  have n3 : some (w.heap.size + 1) ≠ v.ownBlock := fun e => by have := hlo _ e.symm; omega
  refine ⟨g.cell h0 n2, g.cell h1 n1, g.cell h2 n1, g.cell h3 n1, g.cell h4 n1, ?_⟩
  exact ⟨Below.trans t.gr (g.below (by have := t.lo; have := t.hi; omega) (fun g' hg => by have := hlo g' hg; omega)), t.lo, Nat.lt_of_lt_of_le t.hi g.size, Nat.le_trans t.sz g.size,
    (g.frozen t.hi n2).trans t.fb, g.cell t.cr n3, (g.frozen (show w.heap.size + 1 < _ by have := t.lo; have := t.hi; omega) n3).trans t.fr⟩

theorem RDoInv.drew {L : List F} {ops : List O} {bx k : Nat} {v : Value} {Lk : List F} {w wr : World} (h : RDoInv L ops bx k v Lk w wr) : RDoInv L ops bx k v Lk w wr.drew :=
  ⟨h.hk, h.hrun, h.own.gr (Gr.refl _).drew, h.fit, h.len, h.gr.drew, h.lo, h.hi, h.ne, h.cb, h.fb, h.cr, h.fr⟩
end Go.Proofs.YtccjkfccklfjkaaGreatDoor
namespace Go.Proofs.YtccjkfccklfjkaaGreatDoor
open Go.RowKit

theorem made_seg (n : Nat) : (madeCells #[.string ⟨#[]⟩, .string ⟨#[]⟩, .string ⟨#[]⟩] (n * 3)).toList = fcells (List.replicate n zeroF) := by
  apply List.ext_getElem?
  intro j
  by_cases hj : j < n * 3
  · have hq : j / 3 < n := by omega
    have hr := Nat.mod_lt j (show 0 < 3 by decide)
    have hd : j / 3 * 3 + j % 3 = j := by omega
    have hs : (fcells (List.replicate n zeroF))[j]? = (fcell zeroF)[j % 3]? := by
      have := rows_at fcell 3 fcell_len (List.replicate n zeroF) (j / 3) (j % 3) (by rw [List.length_replicate]; exact hq) hr
      rw [hd, List.getElem_replicate] at this
      exact this
    rw [hs]
    have : (madeCells #[Value.string ⟨#[]⟩, .string ⟨#[]⟩, .string ⟨#[]⟩] (n * 3)).toList[j]? = some (#[Value.string ⟨#[]⟩, .string ⟨#[]⟩, .string ⟨#[]⟩][j % 3]!) := by
      simp [madeCells, hj]
    rw [this]
    match j % 3, hr with
    | 0, _ => rfl
    | 1, _ => rfl
    | 2, _ => rfl
  · rw [List.getElem?_eq_none, List.getElem?_eq_none]
    · rw [fcells_len, List.length_replicate]; omega
    · simp [madeCells]; omega
theorem make_seg (n : Nat) (hn : n * 48 ≤ 281474976710656) : ∃ M0 : Array Value, M0.toList = fcells (List.replicate n zeroF) ∧ M0.size = n * 3 ∧
    ∀ W : World, (Instr.makeSlice 22 (.int .i64 (n : Int)) (.int .i64 (n : Int))).run Tryz.prog W = .ok (.slice (some ⟨W.heap.size, 0, none⟩) n n) (W.alloc (.cells M0 63)) := by
  obtain ⟨i0, hi, hz0, hz1, hz2⟩ := info_parts infoFile
  refine ⟨madeCells #[.string ⟨#[]⟩, .string ⟨#[]⟩, .string ⟨#[]⟩] (n * 3), made_seg n, by simp [madeCells], fun W => ?_⟩
  have h := run_make (P := Tryz.prog) W 22 63 i0 _ Tryz.underlying22 hi hz0 .i64 .i64 (n : Int) (n : Int) (by omega) (by omega) (by rw [hz2]; omega) (by omega)
  rw [hz1, Int.toNat_natCast] at h
  exact h
/-- The places behind the first k files. -/
structure SGInv (L : List F) (p : ByteArray) (n k : Nat) (w wr : World) : Prop where
  hk : k ≤ n
  row : FO wr (w.heap.size + 1) (.slice (some ⟨w.heap.size + 1, 0, none⟩) n n) (logAt (L.take k) p n)
  gr : Gr w wr
  lo : w.heap.size + 1 < wr.heap.size
def SGRel (L : List F) (p : ByteArray) (n : Nat) (w : World) (i : Value) (wr : World) : Prop := ∃ k : Nat, i = .int .i64 (k : Int) ∧ SGInv L p n k w wr
theorem sg_skip {L : List F} {p : ByteArray} {n k : Nat} {w wr w4 : World} (h : SGInv L p n k w wr) (hn : n = L.length) (hk : k < L.length) {f : F} (hf : f = L[k]) (hs : ∀ i, numW p f.name = some i → i < n → segO (L.take k) p i ≠ none) (g : Gr wr w4) : SGInv L p n (k + 1) w w4 := by
  refine ⟨by omega, ?_, h.gr.trans g, Nat.lt_of_lt_of_le h.lo g.size⟩
  rw [List.take_succ_eq_append_getElem hk, ← hf, logAt_not hs]
  exact h.row.gr g
theorem sg_put {L : List F} {p : ByteArray} {n k i : Nat} {w wr w4 : World} (h : SGInv L p n k w wr) (hn : n = L.length) (hk : k < L.length) {f : F} (hf : f = L[k]) (hi : numW p f.name = some i) (hin : i < n) (hs : segO (L.take k) p i = none) (g : Gr wr w4) :
    SGInv L p n (k + 1) w (((w4.setCell ⟨w.heap.size + 1, i * 3, none⟩ (.string f.name)).setCell ⟨w.heap.size + 1, i * 3 + 1, none⟩ (.string f.kept)).setCell ⟨w.heap.size + 1, i * 3 + 2, none⟩ (.string f.loose)) := by
  have hlo := h.lo
  refine ⟨by omega, ?_, Below.setCell (Below.setCell (Below.setCell (h.gr.trans g) (p := ⟨w.heap.size + 1, i * 3, none⟩) (show w.heap.size ≤ w.heap.size + 1 by omega) _) (p := ⟨w.heap.size + 1, i * 3 + 1, none⟩) (show w.heap.size ≤ w.heap.size + 1 by omega) _) (p := ⟨w.heap.size + 1, i * 3 + 2, none⟩) (show w.heap.size ≤ w.heap.size + 1 by omega) _, by have := g.size; simp [World.setCell]; omega⟩
  rw [List.take_succ_eq_append_getElem hk, ← hf, logAt_put hi hs]
  exact (h.row.gr g).put3 (by rw [logAt_len]; exact hin) f
/-- The places, up to the first that is free. -/
structure SHInv (L : List F) (p : ByteArray) (n k : Nat) (w wr : World) : Prop where
  hk : k ≤ n
  all : ∀ i, i < k → segO L p i ≠ none
  row : FO wr (w.heap.size + 1) (.slice (some ⟨w.heap.size + 1, 0, none⟩) n n) (logAt L p n)
  gr : Gr w wr
  lo : w.heap.size + 1 < wr.heap.size
def SHRel (L : List F) (p : ByteArray) (n : Nat) (w : World) (i : Value) (wr : World) : Prop := ∃ k : Nat, i = .int .i64 (k : Int) ∧ SHInv L p n k w wr
theorem sh_start {L : List F} {p : ByteArray} {n k : Nat} {w wr : World} (h : SGInv L p n k w wr) (hn : n = L.length) (hk : ¬ k < n) : SHInv L p n 0 w wr := by
  have := h.hk
  have hr := h.row
  rw [List.take_of_length_le (by omega)] at hr
  exact ⟨Nat.zero_le _, fun i hi => absurd hi (Nat.not_lt_zero _), hr, h.gr, h.lo⟩
theorem sh_step {L : List F} {p : ByteArray} {n k : Nat} {w wr w4 : World} (h : SHInv L p n k w wr) (hk : k < n) (hs : segO L p k ≠ none) (g : Gr wr w4) : SHInv L p n (k + 1) w w4 :=
  ⟨hk, fun i hi => by
    rcases Nat.lt_or_ge i k with e | e
    · exact h.all i e
    · obtain rfl : i = k := by omega
      exact hs, h.row.gr g, h.gr.trans g, Nat.lt_of_lt_of_le h.lo g.size⟩
theorem sh_end {L : List F} {p : ByteArray} {n k : Nat} {w wr w4 : World} (h : SHInv L p n k w wr) (hn : n = L.length) (hk : ¬ k < n) (g : Gr wr w4) : FO w4 w.heap.size (.slice (some ⟨w.heap.size + 1, 0, none⟩) n n) (segL L p) := by
  have := h.hk
  have e : segN L p = L.length := segN_eq (seg_all (fun i hi => h.all i (by omega)))
  have : segL L p = logAt L p n := by
    rw [segL_take, e, ← hn, List.take_of_length_le (by rw [logAt_len]; exact Nat.le_refl _)]
  rw [this]
  exact (h.row.gr g).le (by omega)
theorem sh_found {L : List F} {p : ByteArray} {n k : Nat} {w wr w4 : World} (h : SHInv L p n k w wr) (hn : n = L.length) (hs : segO L p k = none) (g : Gr wr w4) : FO w4 w.heap.size (.slice (some ⟨w.heap.size + 1, 0, none⟩) k n) (segL L p) := by
  have e : segN L p = k := segN_eq ⟨h.all, hs⟩
  have hl : (segL L p).length = k := by rw [segL_len, e]
  have hr := (h.row.gr g).le (show w.heap.size ≤ w.heap.size + 1 by omega)
  unfold FO at hr
  rw [logAt_len] at hr
  have hp := own_prefix hr (k := k) h.hk
  unfold FO
  rw [hl]
  have e2 : fcells (segL L p) = (fcells (logAt L p n)).take (k * 3) := by
    rw [segL_take, e, ← hn]
    exact (rows_take fcell 3 fcell_len _ _).symm
  rw [e2]
  exact hp
theorem sbox (f : F) (wr : World) : ∃ W3, W3 = wr.alloc (.cells #[.string f.name, .string f.kept, .string f.loose] 63) ∧ Gr wr W3 ∧
    W3.cell? ⟨wr.heap.size, 0, none⟩ = some (.string f.name) ∧ W3.cell? ⟨wr.heap.size, 1, none⟩ = some (.string f.kept) ∧ W3.cell? ⟨wr.heap.size, 2, none⟩ = some (.string f.loose) :=
  ⟨_, rfl, gr_box wr _, by simp, by simp, by simp⟩
theorem slot_some {o : Option F} {f : F} (h : o = some f) : o.getD zeroF = f := by rw [h]; rfl
theorem slot_none {o : Option F} (h : o = none) : o.getD zeroF = zeroF := by rw [h]; rfl

set_option maxRecDepth 100000 in
set_option maxHeartbeats 4000000 in
theorem segments_any (v : Value) (L : List F) (p : ByteArray) (w : World) (hv : FV w v L) (hp : p.size ≤ 1000) (hf : Fit L) (hlen : L.length * 48 ≤ 281474976710656) :
    Calls Tryz.prog 138 #[.agg #[v], .string p] w fun e w' => RetFiles (segL L p) w e w' := by
  obtain ⟨A, c, rfl, l1, ⟨l2, _⟩, l3⟩ := hv
  have hc63 : c ≤ 9223372036854775807 := l2
  have HA := Lib.hid l3
  have HFit := Lib.hid hf
  obtain ⟨n, hn⟩ : ∃ n, n = L.length := ⟨_, rfl⟩
  rw [← hn] at l1 hlen ⊢
  have HN := Lib.hid hn
  clear l3 l2 hn hf
  obtain ⟨M0, hM1, hM2, hmk⟩ := make_seg n hlen
  have HST : Hid (SGRel L p n w (.int .i64 0) ((w.alloc (.cells #[.slice A n c] 24)).alloc (.cells M0 63))) := by
    refine ⟨0, rfl, Nat.zero_le _, ?_, (gr_box w _).alloc _, (by simp)⟩
    have h := World.ownsRow_lit (base := w.heap.size + 1) (e := 63) (size := 3) (w.alloc (.cells #[.slice A n c] 24)) M0 n (by simp) (by unfold maxLen; omega) hM2
    rw [hM1] at h
    rw [List.take_zero, logAt_nil]
    unfold FO
    rw [List.length_replicate]
    simpa using h
  clear hM1 hM2
  go_enter Tryz.func138, Tryz.ntmps138
  go_wp2_with fail
  clear hmk
  go_loopw [19] (fun i wr => SGRel L p n w i wr) (fun i _ => n - (intOf i).toNat)
  case atStart => exact HST.out
  case round =>
    obtain ⟨k, rfl, inv⟩ := hrel
    have HI := Lib.hid inv
    have hk : k ≤ n := inv.hk
    clear inv HST
    by_cases hlt : k < n
    · have hkL : k < L.length := by rw [← HN.out]; exact hlt
      obtain ⟨b, off, rfl, q0, q1, q2⟩ := HA.out k hkL
      have c0 := HI.out.gr.cell q0
      have c1 := HI.out.gr.cell q1
      have c2 := HI.out.gr.cell q2
      have hfit := HFit.out _ (List.getElem_mem hkL)
      unfold FitF at hfit
      have hs := hfit.1
      obtain ⟨f, hf⟩ : ∃ f, f = L[k] := ⟨_, rfl⟩
      rw [← hf] at c0 c1 c2 hs
      have HF := Lib.hid hf
      obtain ⟨W3, hW3, G3, x0, x1, x2⟩ := sbox f wr
      have H1 := Lib.hid (number_any p f.name hp (by omega) W3)
      have HSK := Lib.hid (fun hs => sg_skip (w4 := W3) HI.out HN.out hkL hf hs G3)
      clear q0 q1 q2 hfit hf hs
      go_wp2_with fail
      rw [← hW3]
      clear hW3
      rcases hnum : numW p f.name with _ | j
      · have H2 : Hid (SGInv L p n (k + 1) w W3) := Lib.hid (HSK.out (fun i hi => by rw [hnum] at hi; cases hi))
        rw [hnum] at H1
        have H3 : Hid (Calls Tryz.prog 170 #[.string p, .string f.name] W3 fun e w' => e = .returned (.tuple #[.int .i64 0, .bool false]) ∧ W3 = w') := H1
        clear hnum
        refine H3.out.mono ?_
        rintro e w1 ⟨rfl, rfl⟩
        go_wp2_with fail
        go_roundw
        case rel => exact ⟨k + 1, by go_num, H2.out⟩
        case measure => simp [intOf]; omega
      · rw [hnum] at H1
        have H3 : Hid (Calls Tryz.prog 170 #[.string p, .string f.name] W3 fun e w' => e = .returned (.tuple #[.int .i64 (j : Int), .bool true]) ∧ W3 = w') := H1
        have hj6 : j < 1000000 := ((num_iff _ _ _).1 hnum).1
        by_cases hjn : j < n
        · rcases hso : segO (L.take k) p j with _ | x
          · have hrow := HI.out.row.gr G3
            have hat := hrow.at_ (j := j) (by rw [logAt_len]; exact hjn)
            rw [logAt_at, slot_none hso] at hat
            obtain ⟨r0, r1, r2⟩ := hat
            obtain ⟨xn, hxn⟩ : ∃ y, y = zeroF.name := ⟨_, rfl⟩
            have he : xn.toList = [] := size_empty.2 (by rw [hxn]; rfl)
            rw [← hxn] at r0
            have z0 := hrow.free (j * 3)
            have z1 := hrow.free (j * 3 + 1)
            have z2 := hrow.free (j * 3 + 2)
            have H2 := Lib.hid (sg_put HI.out HN.out hkL HF.out hnum hjn hso G3)
            clear hnum hso hrow hxn
            refine H3.out.mono ?_
            rintro e w1 ⟨rfl, rfl⟩
            go_wp2_with fail
            go_roundw
            case rel => exact ⟨k + 1, by go_num, H2.out⟩
            case measure => simp [intOf]; omega
          · have hrow := HI.out.row.gr G3
            have hat := hrow.at_ (j := j) (by rw [logAt_len]; exact hjn)
            rw [logAt_at, slot_some hso] at hat
            obtain ⟨r0, -, -⟩ := hat
            have H2 : Hid (SGInv L p n (k + 1) w W3) := Lib.hid (HSK.out (fun i hi _ => by rw [hnum] at hi; injection hi with hi; subst hi; rw [hso]; exact Option.some_ne_none _))
            obtain ⟨xn, hxn⟩ : ∃ y, y = x.name := ⟨_, rfl⟩
            have he : xn.toList.isEmpty = false := by
              cases hq : xn.toList with
              | nil =>
                have := size_empty.1 hq
                rw [hxn, (segO_name hso).2.1, nameW_size] at this
                omega
              | cons a b => rfl
            rw [← hxn] at r0
            clear hnum hso hrow hxn
            refine H3.out.mono ?_
            rintro e w1 ⟨rfl, rfl⟩
            go_wp2_with fail
            go_roundw
            case rel => exact ⟨k + 1, by go_num, H2.out⟩
            case measure => simp [intOf]; omega
        · have H2 : Hid (SGInv L p n (k + 1) w W3) := Lib.hid (HSK.out (fun i hi hin => by rw [hnum] at hi; injection hi with hi; omega))
          clear hnum
          refine H3.out.mono ?_
          rintro e w1 ⟨rfl, rfl⟩
          go_wp2_with fail
          go_roundw
          case rel => exact ⟨k + 1, by go_num, H2.out⟩
          case measure => simp [intOf]; omega
    · have HS2 := Lib.hid (sh_start HI.out HN.out hlt)
      clear HI HA
      go_wp2_with fail
      go_loopw [52] (fun i wr => SHRel L p n w i wr) (fun i _ => n - (intOf i).toNat)
      case atStart => exact ⟨0, rfl, HS2.out⟩
      case round =>
        obtain ⟨k', rfl, inv⟩ := hrel
        have HI := Lib.hid inv
        have hk' : k' ≤ n := inv.hk
        clear inv HS2
        by_cases hlt2 : k' < n
        · have hat := HI.out.row.at_ (j := k') (by rw [logAt_len]; exact hlt2)
          rw [logAt_at] at hat
          obtain ⟨f, hf⟩ : ∃ f, f = (segO L p k').getD zeroF := ⟨_, rfl⟩
          rw [← hf] at hat
          obtain ⟨r0, r1, r2⟩ := hat
          rcases hso : segO L p k' with _ | x
          · have he : f.name.toList = [] := size_empty.2 (by rw [hf, hso]; rfl)
            have hsl := slice_to n n k' hk' (some ⟨w.heap.size + 1, 0, none⟩)
            have H2 := Lib.hid (sh_found HI.out HN.out hso (gr_box _ (.cells #[.string f.name, .string f.kept, .string f.loose] 63)))
            have HG := Lib.hid (HI.out.gr.alloc (.cells #[.string f.name, .string f.kept, .string f.loose] 63))
            clear hso hf
            go_wp2_with fail
            go_ret
            exact ⟨_, rfl, H2.out, HG.out⟩
          · have he : f.name.toList.isEmpty = false := by
              cases hq : f.name.toList with
              | nil =>
                have := size_empty.1 hq
                rw [hf, slot_some hso, (segO_name hso).2.1, nameW_size] at this
                omega
              | cons a b => rfl
            have H2 := Lib.hid (sh_step HI.out hlt2 (by rw [hso]; exact Option.some_ne_none _) (gr_box _ (.cells #[.string f.name, .string f.kept, .string f.loose] 63)))
            clear hso hf
            go_wp2_with fail
            go_roundw
            case rel => exact ⟨k' + 1, by go_num, H2.out⟩
            case measure => simp [intOf]; omega
        · have H2 := Lib.hid (sh_end HI.out HN.out hlt2 (Gr.refl _))
          have HG := Lib.hid HI.out.gr
          go_wp2_with fail
          go_ret
          exact ⟨_, rfl, H2.out, HG.out⟩
end Go.Proofs.YtccjkfccklfjkaaGreatDoor
