/- What the operations of a region leave, each told by a predicate that keeps when boxes change. Walks: the document's Close. Walks: the document's Order. Walks: the document's Order, whole. Plain mathematics of values: which operations there are in a cut, in the order of members and in the document's order; what elements a value has. Own maps from strings to any values. -/
import Derived.Test.YtnjmgknicffcbaaGreatDoorZb42
import Derived.Test.YtnjmgknicffcbaaGreatDoorZb36
import Derived.Test.YtnjmgknicffcbaaGreatDoorZb37
import Derived.Test.YtnjmgknicffcbaaGreatDoorZb22
import Derived.Test.YtnjmgknicffcbaaGreatDoorZb03
import Derived.Test.YtnjmgknicffcbaaGreatDoorZb05
import Derived.Test.YtnjmgknicffcbaaGreatDoorZb33
import Derived.Maps.OwnSet
namespace Go.Proofs.YtnjmgknicffcbaaGreatDoor
open Go.RowKit Go.Joins

/-- Value's answer, its parts named. -/
theorem RetValE.form {r : VR} {k : Nat} {w : World} {e : Ending} {w' : World} (h : RetValE r k w e w') : ∃ A c, e = .returned (.tuple #[.agg #[.int .i64 r.n, .slice A r.e.length c, .bool r.on], .int .i64 (k : Int)]) ∧ SO w' w.heap.size (.slice A r.e.length c) r.e ∧ Gr w w' := by
  obtain ⟨ve, h1, h2, h3⟩ := h
  obtain ⟨A, c, hv, -, -⟩ := own_form h2
  subst hv
  exact ⟨A, c, h1, h2, h3⟩
end Go.Proofs.YtnjmgknicffcbaaGreatDoor
namespace Go.Proofs.YtnjmgknicffcbaaGreatDoor
open Go.RowKit Go.Joins

/-- What the document's Close has in memory. -/
structure ClD (w : World) (u : Nat → S3) (v : Nat → Nat) (wr : World) : Prop where
  vb : VBox wr (w.heap.size + 1) v
  z : VBox wr (w.heap.size + 1 + 1) (fun _ => 0)
  lb : LBox wr w.heap.size u
  gr : Gr w wr
theorem ClD.next {w : World} {u : Nat → S3} {v : Nat → Nat} {a b : World} (h : ClD w u v a) (g : Gr a b) : ClD w u v b := ⟨h.vb.gr g, h.z.gr g, h.lb.gr g, h.gr.trans g⟩
theorem ClD.set {w : World} {u : Nat → S3} {v : Nat → Nat} {a : World} (h : ClD w u v a) {k : Nat} (hk : k < 8) (x : Nat) : ClD w u (upd v k x) (a.setCell ⟨w.heap.size + 1, k, none⟩ (.int .u64 (x : Int))) :=
  ⟨h.vb.set hk x, h.z.far (by simp only []; omega) _, h.lb.far (by simp only []; omega) _, h.gr.setCell (by simp only []; omega) _⟩
/-- The eight cells of a transaction's vector. -/
def DC (w : World) (b o : Nat) (a : Nat → Nat) : Prop := w.cell? ⟨b, o + 3, none⟩ = some (.int .u64 (a 0 : Int)) ∧ w.cell? ⟨b, o + 4, none⟩ = some (.int .u64 (a 1 : Int)) ∧ w.cell? ⟨b, o + 5, none⟩ = some (.int .u64 (a 2 : Int)) ∧ w.cell? ⟨b, o + 6, none⟩ = some (.int .u64 (a 3 : Int)) ∧ w.cell? ⟨b, o + 7, none⟩ = some (.int .u64 (a 4 : Int)) ∧ w.cell? ⟨b, o + 8, none⟩ = some (.int .u64 (a 5 : Int)) ∧ w.cell? ⟨b, o + 9, none⟩ = some (.int .u64 (a 6 : Int)) ∧ w.cell? ⟨b, o + 10, none⟩ = some (.int .u64 (a 7 : Int))
theorem DC.gr {w w' : World} {b o : Nat} {a : Nat → Nat} (h : DC w b o a) (g : Gr w w') : DC w' b o a := by
  obtain ⟨h0, h1, h2, h3, h4, h5, h6, h7⟩ := h
  exact ⟨g.cell h0, g.cell h1, g.cell h2, g.cell h3, g.cell h4, g.cell h5, g.cell h6, g.cell h7⟩
end Go.Proofs.YtnjmgknicffcbaaGreatDoor
namespace Go.Proofs.YtnjmgknicffcbaaGreatDoor
open Go.RowKit Go.Joins
set_option linter.unusedSimpArgs false
set_option linter.unusedVariables false

/-- By stamps, then by origins, then by numbers. -/
def aheadB (a b : TX) : Bool := if a.stamp = b.stamp then (if a.origin = b.origin then decide (a.seq < b.seq) else decide (a.origin < b.origin)) else decide (a.stamp < b.stamp)
/-- The place from k down that t goes to. -/
def plc (t : TX) (L : List TX) : Nat → Nat
  | 0 => 0
  | k + 1 => match L[k]? with | some x => if aheadB t x = true then plc t L k else k + 1 | none => k + 1
end Go.Proofs.YtnjmgknicffcbaaGreatDoor
namespace Go.Proofs.YtnjmgknicffcbaaGreatDoor
open Go.RowKit Go.Joins
set_option linter.unusedSimpArgs false
set_option linter.unusedVariables false

/-- An owned row with one element stored anew. -/
theorem xo_set {w : World} {B g n c k : Nat} {R : List TR} (h : w.ownsRow B 47 12 (.slice (some ⟨g, 0, none⟩) n c) n (trs R)) (hk : k < R.length) (y : TR) :
    (putCells w g (k * 12) (trcells y)).ownsRow B 47 12 (.slice (some ⟨g, 0, none⟩) n c) n (trs (R.set k y)) ∧ Kp (some g) w (putCells w g (k * 12) (trcells y)) := by
  obtain ⟨h1, h2⟩ := own_putCells (trcells y) (k * 12) w _ h
  rw [show setFrom (trs R) (k * 12) (trcells y) = trs (R.set k y) from setFrom_rows trcells 12 trcells_len (by decide) R k hk y] at h1
  exact ⟨h1, h2⟩
theorem TOO.kpT {w w' : World} {B B' g n c : Nat} {xs : List Value} {v : Value} {ops : List TO} (hv : TOO w B' v ops) (ho : w.ownsRow B 47 12 (.slice (some ⟨g, 0, none⟩) n c) n xs) (hB : B' ≤ B) (k : Kp (some g) w w') : TOO w' B' v ops :=
  World.ownsRow.kept hv k (.inr (own_types (own_le ho hB) hv (by decide) (b := g) rfl))
/-- What Order has in memory: the logs' box, the cut's, the row. -/
structure OrR (w : World) (u : Nat → S3) (v0 : Nat → Nat) (s : Value) (R : List TR) (wr : World) : Prop where
  lb : LBox wr w.heap.size u
  vb : VBox wr (w.heap.size + 1) v0
  own : wr.ownsRow (w.heap.size + 2) 47 12 s R.length (trs R)
  ops : TOn wr (w.heap.size + 2) R
  gr : Gr w wr
theorem OrR.next {w : World} {u : Nat → S3} {v0 : Nat → Nat} {s : Value} {R : List TR} {wr w' : World} (h : OrR w u v0 s R wr) (g : Gr wr w') : OrR w u v0 s R w' :=
  ⟨h.lb.gr g, h.vb.gr g, own_gr h.own g, h.ops.mid (Mid.of_gr g), h.gr.trans g⟩
/-- The row has grown by one. -/
theorem OrR.more {w : World} {u : Nat → S3} {v0 : Nat → Nat} {A A' : Option Addr} {n c c' : Nat} {R : List TR} {wr w' : World} {y : TR} (h : OrR w u v0 (.slice A n c) R wr) (hn : n = R.length) (hy : TOO wr (w.heap.size + 2) y.2.v y.1.ops)
    (ho : w'.ownsRow (w.heap.size + 2) 47 12 (.slice A' (n + 1) c') (n + 1) (trs (R ++ [y]))) (kp : wr.grownBy w' (Value.slice A n c).ownBlock) : OrR w u v0 (.slice A' (n + 1) c') (R ++ [y]) w' := by
  subst hn
  have hb := own_below h.own kp
  refine ⟨h.lb.keep (hb _ (by omega) h.lb.lt), ⟨by rw [hb _ (by omega) h.vb.lt]; exact h.vb.box⟩, by rw [List.length_append]; exact ho, fun r hr => ?_, h.gr.grown h.own (by omega) kp⟩
  rcases List.mem_append.1 hr with hr | hr
  · exact TOO.grown (h.ops r hr) h.own (Nat.le_refl _) kp
  · simp only [List.mem_singleton] at hr
    subst hr
    exact TOO.grown hy h.own (Nat.le_refl _) kp
/-- One element stored anew. -/
theorem OrR.put {w : World} {u : Nat → S3} {v0 : Nat → Nat} {g n c k : Nat} {R : List TR} {wr : World} {y : TR} (h : OrR w u v0 (.slice (some ⟨g, 0, none⟩) n c) R wr) (hk : k < R.length) (hn : n = R.length) (hy : TOO wr (w.heap.size + 2) y.2.v y.1.ops) :
    OrR w u v0 (.slice (some ⟨g, 0, none⟩) n c) (R.set k y) (putCells wr g (k * 12) (trcells y)) ∧ Kp (some g) wr (putCells wr g (k * 12) (trcells y)) := by
  subst hn
  obtain ⟨h1, h2⟩ := xo_set h.own hk y
  have hg := (own_len h.own).2.2.1
  refine ⟨⟨⟨kp_obj h2 h.lb.box (by intro e; injection e with e; omega)⟩, ⟨kp_obj h2 h.vb.box (by intro e; injection e with e; omega)⟩, by rw [List.length_set]; exact h1, fun r hr => ?_, h.gr.trans_kp h2 (by omega)⟩, h2⟩
  rcases List.mem_or_eq_of_mem_set hr with hr | hr
  · exact (h.ops r hr).kpT h.own (Nat.le_refl _) h2
  · subst hr
    exact hy.kpT h.own (Nat.le_refl _) h2
/-- The row while an element goes down: place k is free. -/
def gap (R : List TR) (k : Nat) (y : TR) : List TR := R.take k ++ y :: R.drop k
/-- The rounds in which an element goes down. -/
structure OrG (w : World) (u : Nat → S3) (v0 : Nat → Nat) (g n c : Nat) (R : List TR) (t : TX) (s : S3) (bt : Nat) (k : Nat) (wr : World) : Prop where
  or : ∃ y, OrR w u v0 (.slice (some ⟨g, 0, none⟩) n c) (gap R k y) wr
  bx : XFix wr bt 0 t s.v
  bg : g ≠ bt
  ow : TOO wr (w.heap.size + 2) s.v t.ops
  pl : plc t (texts R) R.length = plc t (texts R) k
theorem OrG.next {w : World} {u : Nat → S3} {v0 : Nat → Nat} {g n c : Nat} {R : List TR} {t : TX} {s : S3} {bt k : Nat} {wr w' : World} (h : OrG w u v0 g n c R t s bt k wr) (gr : Gr wr w') : OrG w u v0 g n c R t s bt k w' := by
  obtain ⟨y, hy⟩ := h.or
  exact ⟨⟨y, hy.next gr⟩, h.bx.gr gr, h.bg, own_gr h.ow gr, h.pl⟩

end Go.Proofs.YtnjmgknicffcbaaGreatDoor
namespace Go.Proofs.YtnjmgknicffcbaaGreatDoor

theorem lastL_len (D : List DD) : (lastL D).length ≤ 1 := by
  unfold lastL
  cases topD (kindF 6 D) <;> simp [elemsD]
theorem valR_rising (kind start : Int) (D : List DD) : RisingS (valR kind start D).e := by
  unfold valR
  split
  · exact risingS_nil
  · split
    · exact riseT_rising _
    · split
      · exact (riseT_rising _).filter _
      · split
        · have h := lastL_len D
          show RisingS (lastL D)
          match lastL D, h with
          | [], _ => exact risingS_nil
          | [a], _ => exact List.pairwise_singleton _ _
        · split
          · exact riseT_rising _
          · exact risingS_nil
theorem valV_rising (kind start : Int) (l : LG) (v : Nat → Nat) (key : ByteArray) : RisingS (valV kind start l v key).e := by
  unfold valV
  split
  · exact valR_rising _ _ _
  · exact risingS_nil
end Go.Proofs.YtnjmgknicffcbaaGreatDoor
namespace Go.Proofs.YtnjmgknicffcbaaGreatDoor
open Go.RowKit Go.Joins Go.Maps
set_option linter.unusedSimpArgs false
set_option linter.unusedVariables false

/-- Any value reads as itself. -/
def rdA (v : Value) : Option (DataW Value × List MemPlace) := some (.held v, [])
/-- Block b is a map of at most n entries that tells F. -/
def MapS (w : World) (b n : Nat) (F : ByteArray → Option Value) : Prop :=
  ∃ D : DataW Value, w.ownsMap Tryz.prog 9 rdA b n D ∧ IsMap D ∧ ∀ s : ByteArray, has D (.string s.data.toList) = (F s).isSome ∧ ∀ z : Value, D.atKey (.string s.data.toList) (.held z) = .held ((F s).getD z)
theorem MapS.made (w : World) : MapS (w.alloc (.map #[] 0)) w.heap.size 0 (fun _ => none) := ⟨.map [], World.ownsMap_made _ _ _ _, ⟨[], rfl⟩, fun _ => ⟨rfl, fun _ => rfl⟩⟩
theorem MapS.kept {w w' : World} {b n : Nat} {F : ByteArray → Option Value} {row : Option Nat} (h : MapS w b n F) (hg : w.grownBy w' row) (hne : some b ≠ row) : MapS w' b n F := by
  obtain ⟨D, h1, h2, h3⟩ := h
  exact ⟨D, h1.kept hg hne, h2, h3⟩
theorem MapS.gr {w w' : World} {b n : Nat} {F : ByteArray → Option Value} (h : MapS w b n F) (g : Gr w w') : MapS w' b n F := h.kept (Kp.of_gr (r := none) g) (by simp)
theorem MapS.lt {w : World} {b n : Nat} {F : ByteArray → Option Value} (h : MapS w b n F) : b < w.heap.size := by
  obtain ⟨D, h1, _⟩ := h
  exact h1.lt
theorem MapS.look {w : World} {b n : Nat} {F : ByteArray → Option Value} (h : MapS w b n F) {t e : TypeId} (ht : Tryz.prog.underlying t = some (.map 9 e)) {z : Value} (hz : (zeroValue e).run Tryz.prog w = .ok z w) (s : ByteArray) (hs : s.size ≤ maxLen) :
    (Instr.lookup t (.map (some b)) (.string s) true).run Tryz.prog w = .ok (.tuple #[(F s).getD z, .bool (F s).isSome]) w := by
  obtain ⟨D, h1, h2, h3⟩ := h
  obtain ⟨v, ps, hrun, hv⟩ := h1.look_ok keyStr ht hz (zd := .held z) (zp := []) rfl (WideMaps.keyOf_string_mk Tryz.underlying9 hs)
  rw [(h3 s).2] at hv
  rw [(h3 s).1] at hrun
  have hv' : (some (DataW.held v, []) : Option (DataW Value × List MemPlace)) = some (.held ((F s).getD z), ps) := hv
  have e1 := congrArg Prod.fst (Option.some.inj hv')
  have e2 : v = (F s).getD z := DataW.held.inj e1
  rw [e2] at hrun
  exact hrun
theorem MapS.put {w' : World} {b n : Nat} {F : ByteArray → Option Value} {D : DataW Value} {s : ByteArray} {v : Value} (h2 : IsMap D) (h3 : ∀ s : ByteArray, has D (.string s.data.toList) = (F s).isSome ∧ ∀ z : Value, D.atKey (.string s.data.toList) (.held z) = .held ((F s).getD z)) (h : w'.ownsMap Tryz.prog 9 rdA b n (D.put (.string s.data.toList) (.held v))) :
    MapS w' b n (fun x => if x = s then some v else F x) := by
  refine ⟨_, h, ?_, fun x => ?_⟩
  · obtain ⟨es, rfl⟩ := h2
    exact ⟨_, rfl⟩
  · show has (D.put (.string s.data.toList) (.held v)) (.string x.data.toList) = (if x = s then some v else F x).isSome ∧ ∀ z : Value, (D.put (.string s.data.toList) (.held v)).atKey (.string x.data.toList) (.held z) = .held ((if x = s then some v else F x).getD z)
    by_cases e : x = s
    · subst e
      rw [has_put_same h2 (show WideAt.IsKeyLit (.string x.data.toList) from trivial)]
      refine ⟨by rw [if_pos rfl]; rfl, fun z => ?_⟩
      rw [atKey_put_same h2 (show WideAt.IsKeyLit (.string x.data.toList) from trivial), if_pos rfl]
      rfl
    · have hne : (Lit.string x.data.toList) ≠ .string s.data.toList := fun q => e (by
        injection q with q
        exact ByteArray.ext (Array.ext' q))
      rw [has_put_other hne, if_neg e]
      exact ⟨(h3 x).1, fun z => by rw [atKey_put_other hne]; exact (h3 x).2 z⟩
/-- A store, in the walk. -/
theorem wpList_putS {w : World} {ops : Array Oper} {rest : List Oper} {o : Oper} {a : Act} {Q : Exit → Act → World → Prop} (hg : o.guard = none) (m x v : Operand) (t e : TypeId) (ht : Tryz.prog.underlying t = some (.map 9 e)) (hop : o.op = Op.mapUpdate t m x v)
    (b n : Nat) (F : ByteArray → Option Value) (hm : a.eval m = .map (some b)) (h : MapS w b n F) (hn : n < maxLen) (s : ByteArray) (hs : s.size ≤ maxLen) (y : Value) (hx : a.eval x = .string s) (hv : a.eval v = y)
    (hK : ∀ w', MapS w' b (n + 1) (fun q => if q = s then some y else F q) → w.grownBy w' (some b) → wpList Tryz.prog ops Q rest (a.put o.dst undef) w') :
    wpList Tryz.prog ops Q (o :: rest) a w := by
  obtain ⟨D, h1, h2, h3⟩ := h
  exact wpList_mapUpdate_own w hg m x v t hop 9 e keyStr ht rdA b n D hm h1 hn _ _ _ hx hv (WideMaps.keyOf_string_mk Tryz.underlying9 hs) (.held y) [] rfl fun w' r1 r2 => hK w' (MapS.put h2 h3 r1) r2
theorem MapS.ne {w : World} {b n B size m : Nat} {F : ByteArray → Option Value} {ty : TypeId} {v : Value} {xs : List Value} (h : MapS w b n F) (ho : w.ownsRow B ty size v m xs) : some b ≠ v.ownBlock := by
  obtain ⟨D, ⟨es, clock, hb, _⟩, _⟩ := h
  intro e
  rcases ho.2 with ⟨hv, _⟩ | ⟨g, cap, cur, hv, _, hg, _⟩
  · subst hv
    cases e
  · subst hv
    have e2 : some b = some g := e
    injection e2 with e2
    subst e2
    rw [hb] at hg
    cases hg
/-- Is the string among these? -/
def hasK (K : List ByteArray) (s : ByteArray) : Bool := K.any fun k => eqS k s
theorem hasK_snoc (K : List ByteArray) (s q : ByteArray) : hasK (K ++ [s]) q = (hasK K q || eqS s q) := by unfold hasK; rw [List.any_append]; simp
/-- Block b is a set of strings: those of K. -/
def SetM (w : World) (b n : Nat) (K : List ByteArray) : Prop := ∃ F, MapS w b n F ∧ ∀ s, F s = if hasK K s = true then some (Value.agg #[]) else Option.none
theorem SetM.made (w : World) : SetM (w.alloc (.map #[] 0)) w.heap.size 0 [] := ⟨_, MapS.made w, fun s => rfl⟩
theorem SetM.gr {w w' : World} {b n : Nat} {K : List ByteArray} (h : SetM w b n K) (g : Gr w w') : SetM w' b n K := by
  obtain ⟨F, h1, h2⟩ := h
  exact ⟨F, h1.gr g, h2⟩
theorem SetM.kept {w w' : World} {b n : Nat} {K : List ByteArray} {row : Option Nat} (h : SetM w b n K) (hg : w.grownBy w' row) (hne : some b ≠ row) : SetM w' b n K := by
  obtain ⟨F, h1, h2⟩ := h
  exact ⟨F, h1.kept hg hne, h2⟩
theorem SetM.ne {w : World} {b n B size m : Nat} {K : List ByteArray} {ty : TypeId} {v : Value} {xs : List Value} (h : SetM w b n K) (ho : w.ownsRow B ty size v m xs) : some b ≠ v.ownBlock := by
  obtain ⟨F, h1, _⟩ := h
  exact h1.ne ho
theorem zeroUnit (w : World) : (zeroValue 178).run Tryz.prog w = .ok (.agg #[]) w := by kernel_rfl
theorem SetM.look {w : World} {b n : Nat} {K : List ByteArray} (h : SetM w b n K) (s : ByteArray) (hs : s.size ≤ maxLen) :
    (Instr.lookup 177 (.map (some b)) (.string s) true).run Tryz.prog w = .ok (.tuple #[.agg #[], .bool (hasK K s)]) w := by
  obtain ⟨F, h1, h2⟩ := h
  have h3 := h1.look Tryz.underlying177 (zeroUnit w) s hs
  rw [h2 s] at h3
  rcases q : hasK K s with _ | _
  · rw [q] at h3
    exact h3
  · rw [q] at h3
    exact h3
theorem wpList_putU {w : World} {ops : Array Oper} {rest : List Oper} {o : Oper} {a : Act} {Q : Exit → Act → World → Prop} (hg : o.guard = none) (m x v : Operand) (hop : o.op = Op.mapUpdate 177 m x v)
    (b n : Nat) (K : List ByteArray) (hm : a.eval m = .map (some b)) (h : SetM w b n K) (hn : n < maxLen) (s : ByteArray) (hs : s.size ≤ maxLen) (hx : a.eval x = .string s) (hv : a.eval v = .agg #[])
    (hK : ∀ w', SetM w' b (n + 1) (K ++ [s]) → w.grownBy w' (some b) → wpList Tryz.prog ops Q rest (a.put o.dst undef) w') :
    wpList Tryz.prog ops Q (o :: rest) a w := by
  obtain ⟨F, h1, h2⟩ := h
  refine wpList_putS hg m x v 177 178 Tryz.underlying177 hop b n F hm h1 hn s hs (.agg #[]) hx hv fun w' r1 r2 => hK w' ⟨_, r1, fun q => ?_⟩ r2
  show (if q = s then some (Value.agg #[]) else F q) = _
  rw [h2 q]
  rw [hasK_snoc]
  by_cases e : q = s
  · subst e
    have : eqS q q = true := eqS_iff.2 rfl
    rw [if_pos rfl, this, Bool.or_true, if_pos rfl]
  · have : eqS s q = false := by
      rw [Bool.eq_false_iff]
      exact fun x => e (eqS_iff.1 x).symm
    rw [if_neg e, this, Bool.or_false]
end Go.Proofs.YtnjmgknicffcbaaGreatDoor
