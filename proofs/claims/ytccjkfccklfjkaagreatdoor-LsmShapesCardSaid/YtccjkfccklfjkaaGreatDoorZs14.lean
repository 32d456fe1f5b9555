/- Rows of operations: what they read as. Walks: plans of operations: what writes a record, what drops segments. Walks: Sync, Drop, Append of a log. -/
import Derived.Test.YtccjkfccklfjkaaGreatDoorZs13
import Derived.Test.YtccjkfccklfjkaaGreatDoorZs04
import Derived.Test.YtccjkfccklfjkaaGreatDoorZs06
namespace Go.Proofs.YtccjkfccklfjkaaGreatDoor
open Go.RowKit

def ocell (o : O) : List Value := [.int .i64 o.kind, .string o.name, .string o.bytes, .int .i64 o.at_]
theorem ocell_len (o : O) : (ocell o).length = 4 := rfl
def ocells (ops : List O) : List Value := ops.flatMap ocell
theorem OV.of_sl {w : World} {v : Value} {ops : List O} {n : Nat} (h : SL w 4 v n (ocells ops)) : OV w v ops := by
  obtain ⟨A, c, hv, h1, ⟨h2, h2'⟩, h3, h4⟩ := h
  have hn : ops.length = n := by
    have := rows_len ocell 4 ocell_len ops
    unfold ocells at h3
    omega
  subst hn
  refine ⟨A, c, hv, h1, ⟨h2, h2'⟩, fun j hj => ?_⟩
  have at_ : ∀ r, r < 4 → (ocells ops)[j * 4 + r]? = (ocell ops[j])[r]? := fun r hr => rows_at ocell 4 ocell_len ops j r hj hr
  obtain ⟨b, off, ha, c0⟩ := h4 (j * 4 + 0) _ (at_ 0 (by decide))
  have g : ∀ r u, r < 4 → (ocell ops[j])[r]? = some u → w.cell? ⟨b, off + j * 4 + r, none⟩ = some u := fun r u hr hu => by
    obtain ⟨b', off', ha', c'⟩ := h4 (j * 4 + r) u (by rw [at_ r hr]; exact hu)
    rw [ha] at ha'
    injection ha' with ha'
    injection ha' with e1 e2
    subst e1 e2
    rw [Nat.add_assoc]
    exact c'
  exact ⟨b, off, ha, g 0 _ (by decide) rfl, g 1 _ (by decide) rfl, g 2 _ (by decide) rfl, g 3 _ (by decide) rfl⟩
theorem OV.sl {w : World} {v : Value} {ops : List O} (h : OV w v ops) : SL w 4 v ops.length (ocells ops) := by
  obtain ⟨A, c, hv, h1, h2, h3⟩ := h
  refine ⟨A, c, hv, h1, h2, rows_len ocell 4 ocell_len ops, fun j u hj => ?_⟩
  obtain ⟨q, r, hq, hr, rfl, hu⟩ := rows_of ocell 4 ocell_len (by decide) ops j u hj
  obtain ⟨b, off, ha, c0, c1, c2, c3⟩ := h3 q hq
  refine ⟨b, off, ha, ?_⟩
  rw [← Nat.add_assoc]
  match r, hr with
  | 0, _ => injection hu with hu; rw [← hu]; exact c0
  | 1, _ => injection hu with hu; rw [← hu]; exact c1
  | 2, _ => injection hu with hu; rw [← hu]; exact c2
  | 3, _ => injection hu with hu; rw [← hu]; exact c3
theorem infoOp : (Tryz.prog.info? 72).map (fun i => (i.zero, i.size, i.bytes)) = some (some (.agg #[.int .i64 0, .string ⟨#[]⟩, .string ⟨#[]⟩, .int .i64 0]), 4, 48) := by kernel_rfl
theorem ocells_one (ops : List O) : ∀ u ∈ ocells ops, u.oneCell' = true := by
  intro u hu
  obtain ⟨o, _, hu⟩ := List.mem_flatMap.1 hu
  unfold ocell at hu
  simp only [List.mem_cons, List.not_mem_nil, or_false] at hu
  rcases hu with rfl | rfl | rfl | rfl <;> rfl

/-- The call owns the slice v from block B on: it reads as these operations. -/
def OO (w : World) (B : Nat) (v : Value) (ops : List O) : Prop := w.ownsRow B 72 4 v ops.length (ocells ops)
theorem OO.gr {w w' : World} {B : Nat} {v : Value} {ops : List O} (h : OO w B v ops) (g : Gr w w') : OO w' B v ops := own_gr h g
theorem OO.le {w : World} {B B' : Nat} {v : Value} {ops : List O} (h : OO w B v ops) (hb : B' ≤ B) : OO w B' v ops := own_le h hb
theorem OO.nil (w : World) (B : Nat) : OO w B (.slice none 0 0) [] := World.ownsRow_nil w B _ _
theorem OO.ov {w : World} {B : Nat} {v : Value} {ops : List O} (h : OO w B v ops) : OV w v ops := OV.of_sl (own_sl h)
theorem OO.form {w : World} {B : Nat} {v : Value} {ops : List O} (h : OO w B v ops) : ∃ A c, v = .slice A ops.length c ∧ ops.length ≤ c ∧ c ≤ 9223372036854775807 := own_form h
end Go.Proofs.YtccjkfccklfjkaaGreatDoor
namespace Go.Proofs.YtccjkfccklfjkaaGreatDoor
open Go.RowKit

theorem wname_at (x : Int) (n : Nat) (hx : x = n) (p : ByteArray) (hp : p.size ≤ 9223372036854775000) (hn : n ≤ 9223372036854775807) (w : World) :
    Calls Tryz.prog 141 #[.string p, .int .i64 x] w fun e w' => e = .returned (.string (nameW p n)) ∧ Gr w w' := by
  subst hx; exact wname_any p hp n hn w
/-- The frame as the document has it, appended to segment i. -/
def writeO (p : ByteArray) (i : Nat) (fr : ByteArray) : O := ⟨1, nameW p i, fr, 0⟩
def dropO (p : ByteArray) (i : Nat) : O := ⟨4, nameW p i, ⟨#[]⟩, 0⟩
def syncO (p : ByteArray) (i : Nat) : O := ⟨2, nameW p i, ⟨#[]⟩, 0⟩
def cutO (p : ByteArray) (i : Nat) (k : Nat) : O := ⟨3, nameW p i, ⟨#[]⟩, (k : Int)⟩
def ovalue (o : O) : Value := .agg #[.int .i64 o.kind, .string o.name, .string o.bytes, .int .i64 o.at_]
/-- Drop of segments below t, from a on, the last first. -/
def dropsO (p : ByteArray) (a : Nat) : Nat → List O
  | 0 => []
  | t + 1 => if a ≤ t then dropO p t :: dropsO p a t else []
theorem dropsO_in {p : ByteArray} {a t : Nat} (h : a ≤ t) : dropsO p a (t + 1) = dropO p t :: dropsO p a t := if_pos h
theorem dropsO_out {p : ByteArray} {a t : Nat} (h : t ≤ a) : dropsO p a t = [] := by
  cases t with
  | zero => rfl
  | succ t => exact if_neg (by omega)

theorem write_at (x : Int) (n : Nat) (hx : x = n) (p fr : ByteArray) (hp : p.size ≤ 9223372036854775000) (hn : n ≤ 9223372036854775807) (w : World) :
    Calls Tryz.prog 139 #[.string p, .int .i64 x, .string fr] w fun e w' => e = .returned (ovalue (writeO p n fr)) ∧ Gr w w' := by
  subst hx
  have H1 := Lib.hid (fun w => wname_any p hp n hn w)
  have HG := Lib.hid (gr_box w (.cells #[.int .i64 0, .string ⟨#[]⟩, .string ⟨#[]⟩, .int .i64 0] 72))
  go_enter Tryz.func139, Tryz.ntmps139
  go_wp2_with fail
  refine (H1.out _).mono ?_
  rintro e w1 ⟨rfl, g1⟩
  have z0 : w1.cell? ⟨w.heap.size, 0, none⟩ = some (.int .i64 0) := g1.cell (by simp)
  have z1 : w1.cell? ⟨w.heap.size, 1, none⟩ = some (.string ⟨#[]⟩) := g1.cell (by simp)
  have z2 : w1.cell? ⟨w.heap.size, 2, none⟩ = some (.string ⟨#[]⟩) := g1.cell (by simp)
  have z3 : w1.cell? ⟨w.heap.size, 3, none⟩ = some (.int .i64 0) := g1.cell (by simp)
  have y0 : w1.frozen? ⟨w.heap.size, 0, none⟩ = false := g1.frozen (by simp) (by simp)
  have y1 : w1.frozen? ⟨w.heap.size, 1, none⟩ = false := g1.frozen (by simp) (by simp)
  have y2 : w1.frozen? ⟨w.heap.size, 2, none⟩ = false := g1.frozen (by simp) (by simp)
  have y3 : w1.frozen? ⟨w.heap.size, 3, none⟩ = false := g1.frozen (by simp) (by simp)
  have G1 := HG.out.trans g1
  go_wp2
  refine bodyPost_ret (v := ovalue (writeO p n fr)) (by simp [ovalue, writeO, results, Tryz.results139, go_sem, *]) rfl ⟨rfl, ?_⟩
  exact Below.setCell (Below.setCell (Below.setCell (Below.setCell G1 (Nat.le_refl _) _) (Nat.le_refl _) _) (Nat.le_refl _) _) (Nat.le_refl _) _

def fitsB (f : F) (n : Nat) : Bool := decide (f.size = 0 ∨ (f.size : Int) ≤ 4096 - (n : Int))
theorem fits_any (f : F) (fr : ByteArray) (hf : FitF f) (hn : fr.size ≤ 9223372036854775000) (w : World) :
    Calls Tryz.prog 140 #[.agg #[.string f.name, .string f.kept, .string f.loose], .string fr] w fun e w' => e = .returned (.bool (fitsB f fr.size)) ∧ Gr w w' := by
  unfold FitF F.size at hf
  obtain ⟨hf1, hf2⟩ := hf
  obtain ⟨x, hx⟩ : ∃ x, x = f.kept := ⟨_, rfl⟩
  obtain ⟨y, hy⟩ : ∃ y, y = f.loose := ⟨_, rfl⟩
  have hb : fitsB f fr.size = decide (x.size + y.size = 0 ∨ ((x.size : Int) + (y.size : Int)) ≤ 4096 - (fr.size : Int)) := by
    unfold fitsB F.size
    rw [hx, hy, Int.natCast_add]
  rw [← hx, ← hy] at hf2 ⊢
  have HB := Lib.hid hb
  have HG := Lib.hid (gr_box w (.cells #[.string f.name, .string x, .string y] 63))
  clear hb hx hy
  by_cases h0 : x.size + y.size = 0
  · have hbb : fitsB f fr.size = true := by rw [HB.out]; exact decide_eq_true (.inl h0)
    have hz : (x.size : Int) + (y.size : Int) = 0 := by omega
    have HB2 := Lib.hid hbb
    have ht : (((x.size : Int) + (y.size : Int)) == 0) = true := by rw [hz]; rfl
    clear hbb hz h0
    go_enter Tryz.func140, Tryz.ntmps140
    go_wp2_with fail
    go_ret
    exact ⟨by rw [HB2.out]; rfl, HG.out⟩
  · have ht : (((x.size : Int) + (y.size : Int)) == 0) = false := by rw [beq_eq_false_iff_ne]; omega
    by_cases h1 : (x.size : Int) + (y.size : Int) ≤ 4096 - (fr.size : Int)
    · have HB2 := Lib.hid (HB.out.trans (decide_eq_true (.inr h1)))
      go_enter Tryz.func140, Tryz.ntmps140
      go_wp2_with fail
      go_ret
      exact ⟨by rw [HB2.out]; rfl, HG.out⟩
    · have HB2 := Lib.hid (HB.out.trans (decide_eq_false (by omega)))
      go_enter Tryz.func140, Tryz.ntmps140
      go_wp2_with fail
      go_ret
      exact ⟨by rw [HB2.out]; rfl, HG.out⟩

theorem ocells_snoc (ops : List O) (o : O) : ocells (ops ++ [o]) = ocells ops ++ ocell o := by
  unfold ocells
  rw [List.flatMap_append]
  simp
/-- append of one operation that was just laid. -/
theorem wpList_push_op {W w0 : World} {ops : Array Oper} {rest : List Oper} {o : Oper} {a : Act} {Q : Exit → Act → World → Prop} (hgd : o.guard = none) (s x : Operand)
    (ho : o.op = .call { callee := .builtin .append, args := #[s, x], argTypes := #[31, 31] })
    (v : Value) (L : List O) (o1 : O) (hs : a.eval s = v) (hown : OO W w0.heap.size v L) (H : Nat) (hH : W.heap.size = H) (hx : a.eval x = .slice (some ⟨H, 0, none⟩) 1 1) (hlen : (L.length + 1) * 48 ≤ 140737488355328) (hg : Gr w0 W)
    (h : ∀ A' c' w', OO w' w0.heap.size (.slice A' (L.length + 1) c') (L ++ [o1]) → Gr w0 w' → (W.alloc (.cells #[.int .i64 o1.kind, .string o1.name, .string o1.bytes, .int .i64 o1.at_] 72)).grownBy w' v.ownBlock → wpList Tryz.prog ops Q rest (a.put o.dst (.slice A' (L.length + 1) c')) w') :
    wpList Tryz.prog ops Q (o :: rest) a (W.alloc (.cells #[.int .i64 o1.kind, .string o1.name, .string o1.bytes, .int .i64 o1.at_] 72)) := by
  subst hH
  obtain ⟨i0, hi, hz0, hz1, hz2⟩ := info_parts infoOp
  have hown2 := own_gr hown (gr_box W (.cells #[.int .i64 o1.kind, .string o1.name, .string o1.bytes, .int .i64 o1.at_] 72))
  have hsz := hg.size
  refine wpList_append_sl _ hgd s x 31 ho w0.heap.size 72 i0 _ 4 48 Tryz.underlying31 hi hz0 hz1 hz2 rfl (by decide) v L.length (ocells L) hs hown2 (.slice (some ⟨W.heap.size, 0, none⟩) 1 1) 1 (ocell o1) hx
    (sl_new W _ _ 1 4 rfl (by unfold maxLen; omega)) (fun u hu => ocells_one [o1] u (by unfold ocells; simpa using hu)) (by unfold maxLen; omega) hlen (by simp; omega) (L.length + 1) rfl ?_
  intro A' c' w' hown' hgr _
  refine h A' c' w' ?_ (gr_of_grown (hg.alloc _) hown2 hgr (by simp; omega)) hgr
  unfold OO
  rw [List.length_append, ocells_snoc]
  exact hown'

def RetOps (L : List O) (w : World) (e : Ending) (w' : World) : Prop := ∃ v, e = .returned v ∧ OO w' w.heap.size v L ∧ Gr w w'
structure DRInv (p : ByteArray) (a hi t : Nat) (v : Value) (L : List O) (w wr : World) : Prop where
  ht : t ≤ hi
  all : L ++ dropsO p a t = dropsO p a hi
  len : L.length + t ≤ hi
  own : OO wr w.heap.size v L
  gr : Gr w wr
def DRRel (p : ByteArray) (a hi : Nat) (w : World) (v i : Value) (wr : World) : Prop := ∃ (t : Nat) (L : List O), i = .int .i64 ((t : Int) - 1) ∧ DRInv p a hi t v L w wr

set_option maxRecDepth 100000 in
set_option maxHeartbeats 1000000 in
theorem drops_any (p : ByteArray) (hp : p.size ≤ 1000) (a hi : Nat) (ha : a ≤ 1000000000) (hto : hi ≤ 1000000000) (w : World) :
    Calls Tryz.prog 144 #[.string p, .int .i64 (a : Int), .int .i64 (hi : Int)] w fun e w' => RetOps (dropsO p a hi) w e w' := by
  go_enter Tryz.func144, Tryz.ntmps144
  go_wp2_with fail
  go_loopw [7, 8] (fun v i wr => DRRel p a hi w v i wr) (fun _ i _ => (intOf i + 1).toNat)
  case atStart => exact ⟨hi, [], rfl, Nat.le_refl _, rfl, Nat.le_of_eq (Nat.zero_add _), OO.nil _ _, Gr.refl _⟩
  case round =>
    obtain ⟨t, L, rfl, inv⟩ := hrel
    have HI := Lib.hid inv
    have ht := inv.ht
    have hlen := inv.len
    clear inv
    by_cases hlt : a < t
    · obtain ⟨s, hs⟩ : ∃ s, t = s + 1 := ⟨t - 1, by omega⟩
      have hall := HI.out.all
      rw [hs, dropsO_in (by omega)] at hall
      have hall2 : (L ++ [dropO p s]) ++ dropsO p a s = dropsO p a hi := by rw [List.append_assoc]; exact hall
      have HAL := Lib.hid hall2
      have H1 := Lib.hid (fun w => wname_at ((t : Int) - 1) s (by omega) p (by omega) (by omega) w)
      have hta : (a : Int) ≤ (t : Int) - 1 := by omega
      have HS := Lib.hid hs
      clear hall hall2 hs
      go_wp2_with fail
      refine (H1.out _).mono ?_
      rintro e w1 ⟨rfl, g1⟩
      have HO := Lib.hid (HI.out.own.gr g1)
      have HG := Lib.hid (HI.out.gr.trans g1)
      go_wp2_with (at_builtin; refine wpList_push_op (w0 := w) rfl (.tmp 16) (.tmp 21) rfl _ L (dropO p s) rfl HO.out _ rfl rfl (by omega) HG.out ?_; intro A' c' w3 hown3 hgr3 _)
      have HO3 := Lib.hid hown3
      have HG3 := Lib.hid hgr3
      clear hown3 hgr3
      go_wp2
      go_roundw
      case rel => exact ⟨s, L ++ [dropO p s], by rw [HS.out]; go_num, by have := HS.out; omega, HAL.out, by have := HS.out; rw [List.length_append]; simp only [List.length_cons, List.length_nil]; omega, HO3.out, HG3.out⟩
      case measure => simp [intOf]; omega
    · have hall := HI.out.all
      rw [dropsO_out (by omega), List.append_nil] at hall
      have HAL := Lib.hid hall
      have hta : ¬ (a : Int) ≤ (t : Int) - 1 := by omega
      clear hall
      go_wp2_with fail
      go_ret
      exact ⟨_, rfl, by rw [← HAL.out]; exact HI.out.own, HI.out.gr⟩
end Go.Proofs.YtccjkfccklfjkaaGreatDoor
namespace Go.Proofs.YtccjkfccklfjkaaGreatDoor
open Go.RowKit

def RetPlan (L : List O) (k : Nat) (w : World) (e : Ending) (w' : World) : Prop := ∃ v, e = .returned (.tuple #[v, .int .i64 (k : Int)]) ∧ OO w' w.heap.size v L ∧ Gr w w'
theorem RetPlan.none {w w' : World} (k : Nat) (g : Gr w w') : RetPlan [] k w (.returned (.tuple #[.slice none 0 0, .int .i64 (k : Int)])) w' := ⟨_, rfl, OO.nil _ _, g⟩
theorem oo_one (W : World) (o : O) (B : Nat) (hB : B ≤ W.heap.size) : OO (W.alloc (.cells #[.int .i64 o.kind, .string o.name, .string o.bytes, .int .i64 o.at_] 72)) B (.slice (some ⟨W.heap.size, 0, none⟩) 1 1) [o] :=
  World.ownsRow_lit (base := B) (e := 72) (size := 4) W _ 1 hB (by unfold maxLen; omega) rfl
theorem oo_two (W : World) (o1 o2 : O) (B : Nat) (hB : B ≤ W.heap.size) : OO (W.alloc (.cells #[.int .i64 o1.kind, .string o1.name, .string o1.bytes, .int .i64 o1.at_, .int .i64 o2.kind, .string o2.name, .string o2.bytes, .int .i64 o2.at_] 72)) B (.slice (some ⟨W.heap.size, 0, none⟩) 2 2) [o1, o2] :=
  World.ownsRow_lit (base := B) (e := 72) (size := 4) W _ 2 hB (by unfold maxLen; omega) rfl
def syncPlan (L : List F) (p : ByteArray) : List O := if segN L p = 0 then [] else [syncO p (segN L p - 1)]

set_option maxRecDepth 100000 in
set_option maxHeartbeats 1000000 in
theorem sync_yes (v : Value) (L : List F) (p : ByteArray) (w : World) (hv : FV w v L) (hp : prefixB p = true) (hf : Fit L) (hlen : L.length * 48 ≤ 140737488355328) :
    Calls Tryz.prog 124 #[.agg #[v], .string p] w fun e w' => RetPlan (syncPlan L p) 0 w e w' := by
  have hps := prefix_size hp
  have h1 := fun w => prefix_any p (by omega) w
  rw [hp] at h1
  have H1 := Lib.hid h1
  have H2 := Lib.hid (fun w1 (g : Gr w w1) => segments_any v L p w1 (hv.gr g) (by omega) hf (by omega))
  have hsn := (segN_is L p).le.2
  obtain ⟨n, hn⟩ : ∃ n, n = segN L p := ⟨_, rfl⟩
  have hl := segL_len L p
  rw [← hn] at hl hsn
  have HP : Hid (syncPlan L p = if n = 0 then [] else [syncO p (n - 1)]) := Lib.hid (by unfold syncPlan; rw [hn])
  have HL := Lib.hid hl
  obtain ⟨A, c, rfl, -⟩ := hv
  have HG := Lib.hid (gr_box w (.cells #[.slice A L.length c] 24))
  clear h1 hp hl hn
  go_enter Tryz.func124, Tryz.ntmps124
  go_wp2_with fail
  refine (H1.out _).mono ?_
  rintro e w1 ⟨rfl, rfl⟩
  go_wp2_with fail
  refine (H2.out _ HG.out).mono ?_
  rintro e w2 ⟨v2, rfl, hown, g2⟩
  obtain ⟨A2, c2, hv2, hc1, hc2⟩ := hown.form
  rw [HL.out] at hv2 hc1
  subst hv2
  have HG2 := Lib.hid (HG.out.trans g2)
  clear hown g2
  by_cases h0 : n = 0
  · have ht : ((n : Int) == 0) = true := by rw [h0]; rfl
    have HP2 := Lib.hid (HP.out.trans (if_pos h0))
    clear h0
    go_wp2_with fail
    go_ret2
    rw [HP2.out]
    exact RetPlan.none 0 HG2.out
  · have ht : ((n : Int) == 0) = false := by rw [beq_eq_false_iff_ne]; omega
    have HP2 := Lib.hid (HP.out.trans (if_neg h0))
    have H3 := Lib.hid (fun w => wname_at ((n : Int) - 1) (n - 1) (by omega) p (by omega) (by omega) w)
    clear h0
    go_wp2_with fail
    refine (H3.out _).mono ?_
    rintro e w3 ⟨rfl, g3⟩
    have HG3 := Lib.hid (HG2.out.trans g3)
    have HO := Lib.hid (oo_one w3 (syncO p (n - 1)) w.heap.size HG3.out.size)
    go_wp2_with fail
    go_ret2
    rw [HP2.out]
    exact ⟨_, rfl, HO.out, HG3.out.alloc _⟩
/-- The last segment. -/
def lastF (L : List F) (p : ByteArray) : F := (segO L p (segN L p - 1)).getD zeroF
/-- What writes a record. -/
def appendPlan (L : List F) (p record : ByteArray) : List O × Nat :=
  if 65536 < record.size then ([], 2)
  else if segN L p = 0 then ([writeO p 0 (frameB record)], 0)
  else if fitsB (lastF L p) (frameB record).size = true then ([writeO p (segN L p - 1) (frameB record)], 0)
  else if segN L p = 1000000 then ([], 4)
  else ([syncO p (segN L p - 1), writeO p (segN L p) (frameB record)], 0)
theorem frameB_size (s : ByteArray) : (frameB s).size = s.size + 8 := by
  unfold frameB
  rw [append_size, append_size, be4_size, be4_size]
  omega
theorem append_long (v : Value) (p record : ByteArray) (w : World) (hp : prefixB p = true) (hr : 65536 < record.size) (hv : ∃ A n c, v = .slice A n c) :
    Calls Tryz.prog 111 #[.agg #[v], .string p, .string record] w fun e w' => RetPlan [] 2 w e w' := by
  have hps := prefix_size hp
  have h1 := fun w => prefix_any p (by omega) w
  rw [hp] at h1
  have H1 := Lib.hid h1
  have H2 := Lib.hid (fun w => frame_no record hr w)
  obtain ⟨A, n, c, rfl⟩ := hv
  have HG := Lib.hid (gr_box w (.cells #[.slice A n c] 24))
  clear h1 hp
  go_enter Tryz.func111, Tryz.ntmps111
  go_wp2_with fail
  refine (H1.out _).mono ?_
  rintro e w1 ⟨rfl, rfl⟩
  go_wp2_with fail
  refine (H2.out _).mono ?_
  rintro e w1 ⟨rfl, rfl⟩
  go_wp2_with fail
  go_ret2
  exact RetPlan.none 2 HG.out
set_option maxRecDepth 100000 in
set_option maxHeartbeats 1000000 in
theorem append_yes (v : Value) (L : List F) (p record : ByteArray) (w : World) (hv : FV w v L) (hp : prefixB p = true) (hr : record.size ≤ 65536) (hf : Fit L) (hlen : L.length * 48 ≤ 140737488355328) (hH : Halves w) :
    Calls Tryz.prog 111 #[.agg #[v], .string p, .string record] w fun e w' => RetPlan (appendPlan L p record).1 (appendPlan L p record).2 w e w' := by
  have hps := prefix_size hp
  have h1 := fun w => prefix_any p (by omega) w
  rw [hp] at h1
  have H1 := Lib.hid h1
  have H0 := Lib.hid (fun w1 (g : Gr w w1) => frame_yes record hr w1 (hH.gr g))
  have H2 := Lib.hid (fun w1 (g : Gr w w1) => segments_any v L p w1 (hv.gr g) (by omega) hf (by omega))
  have hsn := (segN_is L p).le.2
  have hl := segL_len L p
  have hfz := frameB_size record
  have hpl : appendPlan L p record = if segN L p = 0 then ([writeO p 0 (frameB record)], 0)
      else if fitsB (lastF L p) (frameB record).size = true then ([writeO p (segN L p - 1) (frameB record)], 0)
      else if segN L p = 1000000 then ([], 4)
      else ([syncO p (segN L p - 1), writeO p (segN L p) (frameB record)], 0) := by
    unfold appendPlan
    rw [if_neg (by omega)]
  have hat : ∀ i (h : i < (segL L p).length), i = segN L p - 1 → (segL L p)[i] = lastF L p := fun i h e => by
    unfold lastF
    rw [← e, segL_at h]
    rfl
  obtain ⟨n, hn⟩ : ∃ n, n = segN L p := ⟨_, rfl⟩
  obtain ⟨fr, hfr⟩ : ∃ n, n = frameB record := ⟨_, rfl⟩
  rw [← hn, ← hfr] at hpl
  rw [← hn] at hl hsn hat
  rw [← hfr] at hfz H0
  have HP := Lib.hid hpl
  have HL := Lib.hid hl
  have HAT := Lib.hid hat
  have HFit := Lib.hid hf
  obtain ⟨A, c, rfl, -⟩ := hv
  have HG := Lib.hid (gr_box w (.cells #[.slice A L.length c] 24))
  clear h1 hp hl hn hat hpl hfr hf hH
  go_enter Tryz.func111, Tryz.ntmps111
  go_wp2_with fail
  refine (H1.out _).mono ?_
  rintro e w1 ⟨rfl, rfl⟩
  go_wp2_with fail
  refine (H0.out _ HG.out).mono ?_
  rintro e w1 ⟨rfl, g1⟩
  have HG1 := Lib.hid (HG.out.trans g1)
  have hb1 : w1.cell? ⟨w.heap.size, 0, none⟩ = some (.slice A L.length c) := g1.cell (by simp)
  clear g1
  go_wp2_with fail
  refine (H2.out _ HG1.out).mono ?_
  rintro e w2 ⟨v2, rfl, hown, g2⟩
  obtain ⟨A2, c2, hv2, hc1, hc2⟩ := hown.form
  rw [HL.out] at hv2 hc1
  subst hv2
  have HO2 := Lib.hid hown
  have HG2 := Lib.hid (HG1.out.trans g2)
  clear hown g2 hb1
  rcases Nat.eq_zero_or_pos n with h0 | h0
  · have HP2 := Lib.hid (HP.out.trans (if_pos h0))
    subst h0
    have H3 := Lib.hid (fun w => write_at 0 0 rfl p fr (by omega) (by omega) w)
    go_wp2_with fail
    refine (H3.out _).mono ?_
    rintro e w3 ⟨rfl, g3⟩
    have HG3 := Lib.hid (HG2.out.trans g3)
    have HO := Lib.hid (oo_one w3 (writeO p 0 fr) w.heap.size HG3.out.size)
    clear g3
    unfold ovalue
    go_wp2_with fail
    go_ret2
    rw [HP2.out]
    exact ⟨_, rfl, HO.out, HG3.out.alloc _⟩
  obtain ⟨m, rfl⟩ : ∃ m, n = m + 1 := ⟨n - 1, by omega⟩
  have hm : m < (segL L p).length := by rw [HL.out]; omega
  obtain ⟨g, c2', hvv⟩ := HO2.out.addr hm
  rw [HL.out] at hvv
  injection hvv with e1 e2 e3
  subst e1 e3
  clear e2
  have hcell := HO2.out.at_ hm
  have hfitL := HFit.out _ (segL_mem (List.getElem_mem hm))
  rw [HAT.out m hm (by omega)] at hcell hfitL
  obtain ⟨f, hf⟩ : ∃ f, f = lastF L p := ⟨_, rfl⟩
  rw [← hf] at hcell hfitL
  obtain ⟨r0, r1, r2⟩ := hcell
  have H3 := Lib.hid (fun w => fits_any f fr hfitL (by omega) w)
  have HP1 := Lib.hid (HP.out.trans (if_neg (by omega)))
  rw [← hf] at HP1
  clear hfitL hf hm HAT HP
  rcases hq : fitsB f fr.size with _ | _
  · have HP2 := Lib.hid (HP1.out.trans (if_neg (by rw [hq]; exact Bool.false_ne_true)))
    rw [hq] at H3
    clear hq HP1
    by_cases h6 : m = 999999
    · have HP3 := Lib.hid (HP2.out.trans (if_pos (by omega)))
      have ht : ((m : Int) == 999999) = true := by rw [h6]; rfl
      clear HP2 h6
      go_wp2_with fail
      refine (H3.out _).mono ?_
      rintro e w3 ⟨rfl, g3⟩
      have HG3 := Lib.hid (HG2.out.trans g3)
      clear g3
      go_wp2_with fail
      go_ret2
      rw [HP3.out]
      exact RetPlan.none 4 HG3.out
    · have HP3 := Lib.hid (HP2.out.trans (if_neg (by omega)))
      have ht : ((m : Int) == 999999) = false := by rw [beq_eq_false_iff_ne]; omega
      have H4 := Lib.hid (fun w => wname_at (m : Int) m rfl p (by omega) (by omega) w)
      have H5 := Lib.hid (fun w => write_at ((m : Int) + 1) (m + 1) rfl p fr (by omega) (by omega) w)
      clear HP2 h6
      go_wp2_with fail
      refine (H3.out _).mono ?_
      rintro e w3 ⟨rfl, g3⟩
      have HG3 := Lib.hid (HG2.out.trans g3)
      clear g3
      go_wp2_with fail
      refine (H4.out _).mono ?_
      rintro e w4 ⟨rfl, g4⟩
      have HG4 := Lib.hid (HG3.out.trans g4)
      clear g4
      go_wp2_with fail
      refine (H5.out _).mono ?_
      rintro e w5 ⟨rfl, g5⟩
      have HG5 := Lib.hid (HG4.out.trans g5)
      have HO := Lib.hid (oo_two w5 (syncO p m) (writeO p (m + 1) fr) w.heap.size HG5.out.size)
      clear g5
      unfold ovalue
      go_wp2_with fail
      go_ret2
      rw [HP3.out]
      exact ⟨_, rfl, HO.out, HG5.out.alloc _⟩
  · have HP2 := Lib.hid (HP1.out.trans (if_pos hq))
    rw [hq] at H3
    have H5 := Lib.hid (fun w => write_at (m : Int) m rfl p fr (by omega) (by omega) w)
    clear hq HP1
    go_wp2_with fail
    refine (H3.out _).mono ?_
    rintro e w3 ⟨rfl, g3⟩
    have HG3 := Lib.hid (HG2.out.trans g3)
    clear g3
    go_wp2_with fail
    refine (H5.out _).mono ?_
    rintro e w5 ⟨rfl, g5⟩
    have HG5 := Lib.hid (HG3.out.trans g5)
    have HO := Lib.hid (oo_one w5 (writeO p m fr) w.heap.size HG5.out.size)
    clear g5
    unfold ovalue
    go_wp2_with fail
    go_ret2
    rw [HP2.out]
    exact ⟨_, rfl, HO.out, HG5.out.alloc _⟩
end Go.Proofs.YtccjkfccklfjkaaGreatDoor
