/- Walks: plans of operations: what writes a record, what drops segments. -/
import Derived.Test.YtmkcgnljankmdaaDoorWalD
import Derived.Test.YtmkcgnljankmdaaDoorOps
namespace Go.Proofs.YtmkcgnljankmdaaDoor
open Go.RowKit

theorem wname_at (x : Int) (n : Nat) (hx : x = n) (p : ByteArray) (hp : p.size ≤ 9223372036854775000) (hn : n ≤ 9223372036854775807) (w : World) :
    Calls Tryd.prog 25 #[.string p, .int .i64 x] w fun e w' => e = .returned (.string (nameW p n)) ∧ Gr w w' := by
  subst hx; exact wname_any p hp n hn w
theorem rwname_at (x : Int) (n : Nat) (hx : x = n) (p : ByteArray) (hp : p.size ≤ 9223372036854775000) (hn : n ≤ 9223372036854775807) (w : World) :
    Calls Tryd.prog 29 #[.string p, .int .i64 x] w fun e w' => e = .returned (.string (nameW p n)) ∧ Gr w w' := by
  subst hx; exact rwname_any p hp n hn w
/-- The frame as the document has it, appended to segment i. -/
def writeO (p : ByteArray) (i : Nat) (fr : ByteArray) : O := ⟨1, nameW p i, fr, 0⟩
def dropO (p : ByteArray) (i : Nat) : O := ⟨4, nameW p i, ⟨#[]⟩, 0⟩
def syncO (p : ByteArray) (i : Nat) : O := ⟨2, nameW p i, ⟨#[]⟩, 0⟩
def cutO (p : ByteArray) (i : Nat) (k : Nat) : O := ⟨3, nameW p i, ⟨#[]⟩, (k : Int)⟩
def ovalue (o : O) : Value := .agg #[.int .i64 o.kind, .string o.name, .string o.bytes, .int .i64 o.at_]
/-- Drop of segments below t, from a on, the last first. -/
def dropsO (p : ByteArray) (a : Nat) : Nat → List O
  | 0 => []
  | t + 1 => if a ≤ t then dropO p t :: dropsO p a t else []
theorem dropsO_in {p : ByteArray} {a t : Nat} (h : a ≤ t) : dropsO p a (t + 1) = dropO p t :: dropsO p a t := if_pos h
theorem dropsO_out {p : ByteArray} {a t : Nat} (h : t ≤ a) : dropsO p a t = [] := by
  cases t with
  | zero => rfl
  | succ t => exact if_neg (by omega)

theorem write_at (x : Int) (n : Nat) (hx : x = n) (p fr : ByteArray) (hp : p.size ≤ 9223372036854775000) (hn : n ≤ 9223372036854775807) (w : World) :
    Calls Tryd.prog 33 #[.string p, .int .i64 x, .string fr] w fun e w' => e = .returned (ovalue (writeO p n fr)) ∧ Gr w w' := by
  subst hx
  have H1 := Lib.hid (fun w => wname_any p hp n hn w)
  have HG := Lib.hid (gr_box w (.cells #[.int .i64 0, .string ⟨#[]⟩, .string ⟨#[]⟩, .int .i64 0] 49))
  go_enter Tryd.func33, Tryd.ntmps33
  go_wp2_with fail
  refine (H1.out _).mono ?_
  rintro e w1 ⟨rfl, g1⟩
  have z0 : w1.cell? ⟨w.heap.size, 0, none⟩ = some (.int .i64 0) := g1.cell (by simp)
  have z1 : w1.cell? ⟨w.heap.size, 1, none⟩ = some (.string ⟨#[]⟩) := g1.cell (by simp)
  have z2 : w1.cell? ⟨w.heap.size, 2, none⟩ = some (.string ⟨#[]⟩) := g1.cell (by simp)
  have z3 : w1.cell? ⟨w.heap.size, 3, none⟩ = some (.int .i64 0) := g1.cell (by simp)
  have y0 : w1.frozen? ⟨w.heap.size, 0, none⟩ = false := g1.frozen (by simp) (by simp)
  have y1 : w1.frozen? ⟨w.heap.size, 1, none⟩ = false := g1.frozen (by simp) (by simp)
  have y2 : w1.frozen? ⟨w.heap.size, 2, none⟩ = false := g1.frozen (by simp) (by simp)
  have y3 : w1.frozen? ⟨w.heap.size, 3, none⟩ = false := g1.frozen (by simp) (by simp)
  have G1 := HG.out.trans g1
  go_wp2
  refine bodyPost_ret (v := ovalue (writeO p n fr)) (by simp [ovalue, writeO, results, Tryd.results33, go_sem, *]) rfl ⟨rfl, ?_⟩
  exact Below.setCell (Below.setCell (Below.setCell (Below.setCell G1 (Nat.le_refl _) _) (Nat.le_refl _) _) (Nat.le_refl _) _) (Nat.le_refl _) _

def fitsB (f : F) (n : Nat) : Bool := decide (f.size = 0 ∨ (f.size : Int) ≤ 4096 - (n : Int))
theorem fits_any (f : F) (fr : ByteArray) (hf : FitF f) (hn : fr.size ≤ 9223372036854775000) (w : World) :
    Calls Tryd.prog 34 #[.agg #[.string f.name, .string f.kept, .string f.loose], .string fr] w fun e w' => e = .returned (.bool (fitsB f fr.size)) ∧ Gr w w' := by
  unfold FitF F.size at hf
  obtain ⟨hf1, hf2⟩ := hf
  obtain ⟨x, hx⟩ : ∃ x, x = f.kept := ⟨_, rfl⟩
  obtain ⟨y, hy⟩ : ∃ y, y = f.loose := ⟨_, rfl⟩
  have hb : fitsB f fr.size = decide (x.size + y.size = 0 ∨ ((x.size : Int) + (y.size : Int)) ≤ 4096 - (fr.size : Int)) := by
    unfold fitsB F.size
    rw [hx, hy, Int.natCast_add]
  rw [← hx, ← hy] at hf2 ⊢
  have HB := Lib.hid hb
  have HG := Lib.hid (gr_box w (.cells #[.string f.name, .string x, .string y] 46))
  clear hb hx hy
  by_cases h0 : x.size + y.size = 0
  · have hbb : fitsB f fr.size = true := by rw [HB.out]; exact decide_eq_true (.inl h0)
    have hz : (x.size : Int) + (y.size : Int) = 0 := by omega
    have HB2 := Lib.hid hbb
    have ht : (((x.size : Int) + (y.size : Int)) == 0) = true := by rw [hz]; rfl
    clear hbb hz h0
    go_enter Tryd.func34, Tryd.ntmps34
    go_wp2_with fail
    go_ret
    exact ⟨by rw [HB2.out]; rfl, HG.out⟩
  · have ht : (((x.size : Int) + (y.size : Int)) == 0) = false := by rw [beq_eq_false_iff_ne]; omega
    by_cases h1 : (x.size : Int) + (y.size : Int) ≤ 4096 - (fr.size : Int)
    · have HB2 := Lib.hid (HB.out.trans (decide_eq_true (.inr h1)))
      go_enter Tryd.func34, Tryd.ntmps34
      go_wp2_with fail
      go_ret
      exact ⟨by rw [HB2.out]; rfl, HG.out⟩
    · have HB2 := Lib.hid (HB.out.trans (decide_eq_false (by omega)))
      go_enter Tryd.func34, Tryd.ntmps34
      go_wp2_with fail
      go_ret
      exact ⟨by rw [HB2.out]; rfl, HG.out⟩

theorem ocells_snoc (ops : List O) (o : O) : ocells (ops ++ [o]) = ocells ops ++ ocell o := by
  unfold ocells
  rw [List.flatMap_append]
  simp
/-- append of one operation that was just laid. -/
theorem wpList_push_op {W w0 : World} {ops : Array Oper} {rest : List Oper} {o : Oper} {a : Act} {Q : Exit → Act → World → Prop} (hgd : o.guard = none) (s x : Operand)
    (ho : o.op = .call { callee := .builtin .append, args := #[s, x], argTypes := #[28, 28] })
    (v : Value) (L : List O) (o1 : O) (hs : a.eval s = v) (hown : OO W w0.heap.size v L) (H : Nat) (hH : W.heap.size = H) (hx : a.eval x = .slice (some ⟨H, 0, none⟩) 1 1) (hlen : (L.length + 1) * 48 ≤ 140737488355328) (hg : Gr w0 W)
    (h : ∀ A' c' w', OO w' w0.heap.size (.slice A' (L.length + 1) c') (L ++ [o1]) → Gr w0 w' → (W.alloc (.cells #[.int .i64 o1.kind, .string o1.name, .string o1.bytes, .int .i64 o1.at_] 49)).grownBy w' v.ownBlock → wpList Tryd.prog ops Q rest (a.put o.dst (.slice A' (L.length + 1) c')) w') :
    wpList Tryd.prog ops Q (o :: rest) a (W.alloc (.cells #[.int .i64 o1.kind, .string o1.name, .string o1.bytes, .int .i64 o1.at_] 49)) := by
  subst hH
  obtain ⟨i0, hi, hz0, hz1, hz2⟩ := info_parts infoOp
  have hown2 := own_gr hown (gr_box W (.cells #[.int .i64 o1.kind, .string o1.name, .string o1.bytes, .int .i64 o1.at_] 49))
  have hsz := hg.size
  refine wpList_append_sl _ hgd s x 28 ho w0.heap.size 49 i0 _ 4 48 Tryd.underlying28 hi hz0 hz1 hz2 rfl (by decide) v L.length (ocells L) hs hown2 (.slice (some ⟨W.heap.size, 0, none⟩) 1 1) 1 (ocell o1) hx
    (sl_new W _ _ 1 4 rfl (by unfold maxLen; omega)) (fun u hu => ocells_one [o1] u (by unfold ocells; simpa using hu)) (by unfold maxLen; omega) hlen (by simp; omega) (L.length + 1) rfl ?_
  intro A' c' w' hown' hgr _
  refine h A' c' w' ?_ (gr_of_grown (hg.alloc _) hown2 hgr (by simp; omega)) hgr
  unfold OO
  rw [List.length_append, ocells_snoc]
  exact hown'

def RetOps (L : List O) (w : World) (e : Ending) (w' : World) : Prop := ∃ v, e = .returned v ∧ OO w' w.heap.size v L ∧ Gr w w'
structure DRInv (p : ByteArray) (a hi t : Nat) (v : Value) (L : List O) (w wr : World) : Prop where
  ht : t ≤ hi
  all : L ++ dropsO p a t = dropsO p a hi
  len : L.length + t ≤ hi
  own : OO wr w.heap.size v L
  gr : Gr w wr
def DRRel (p : ByteArray) (a hi : Nat) (w : World) (v i : Value) (wr : World) : Prop := ∃ (t : Nat) (L : List O), i = .int .i64 ((t : Int) - 1) ∧ DRInv p a hi t v L w wr

set_option maxRecDepth 100000 in
set_option maxHeartbeats 1000000 in
theorem drops_any (p : ByteArray) (hp : p.size ≤ 1000) (a hi : Nat) (ha : a ≤ 1000000000) (hto : hi ≤ 1000000000) (w : World) :
    Calls Tryd.prog 24 #[.string p, .int .i64 (a : Int), .int .i64 (hi : Int)] w fun e w' => RetOps (dropsO p a hi) w e w' := by
  go_enter Tryd.func24, Tryd.ntmps24
  go_wp2_with fail
  go_loopw [7, 8] (fun v i wr => DRRel p a hi w v i wr) (fun _ i _ => (intOf i + 1).toNat)
  case atStart => exact ⟨hi, [], rfl, Nat.le_refl _, rfl, Nat.le_of_eq (Nat.zero_add _), OO.nil _ _, Gr.refl _⟩
  case round =>
    obtain ⟨t, L, rfl, inv⟩ := hrel
    have HI := Lib.hid inv
    have ht := inv.ht
    have hlen := inv.len
    clear inv
    by_cases hlt : a < t
    · obtain ⟨s, hs⟩ : ∃ s, t = s + 1 := ⟨t - 1, by omega⟩
      have hall := HI.out.all
      rw [hs, dropsO_in (by omega)] at hall
      have hall2 : (L ++ [dropO p s]) ++ dropsO p a s = dropsO p a hi := by rw [List.append_assoc]; exact hall
      have HAL := Lib.hid hall2
      have H1 := Lib.hid (fun w => wname_at ((t : Int) - 1) s (by omega) p (by omega) (by omega) w)
      have hta : (a : Int) ≤ (t : Int) - 1 := by omega
      have HS := Lib.hid hs
      clear hall hall2 hs
      go_wp2_with fail
      refine (H1.out _).mono ?_
      rintro e w1 ⟨rfl, g1⟩
      have HO := Lib.hid (HI.out.own.gr g1)
      have HG := Lib.hid (HI.out.gr.trans g1)
      go_wp2_with (at_builtin; refine wpList_push_op (w0 := w) rfl (.tmp 16) (.tmp 21) rfl _ L (dropO p s) rfl HO.out _ rfl rfl (by omega) HG.out ?_; intro A' c' w3 hown3 hgr3 _)
      have HO3 := Lib.hid hown3
      have HG3 := Lib.hid hgr3
      clear hown3 hgr3
      go_wp2
      go_roundw
      case rel => exact ⟨s, L ++ [dropO p s], by rw [HS.out]; go_num, by have := HS.out; omega, HAL.out, by have := HS.out; rw [List.length_append]; simp only [List.length_cons, List.length_nil]; omega, HO3.out, HG3.out⟩
      case measure => simp [intOf]; omega
    · have hall := HI.out.all
      rw [dropsO_out (by omega), List.append_nil] at hall
      have HAL := Lib.hid hall
      have hta : ¬ (a : Int) ≤ (t : Int) - 1 := by omega
      clear hall
      go_wp2_with fail
      go_ret
      exact ⟨_, rfl, by rw [← HAL.out]; exact HI.out.own, HI.out.gr⟩
end Go.Proofs.YtmkcgnljankmdaaDoor
