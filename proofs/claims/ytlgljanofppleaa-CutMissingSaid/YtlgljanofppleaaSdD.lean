/- Stands sorted: the order is strict and weak; walks: slices.SortFunc over them, of no length and of any. -/
import Derived.Test.YtlgljanofppleaaSdB
import Derived.Test.YtlgljanofppleaaCutE
namespace Go.Proofs.Ytlgljanofppleaa
open Go.RowKit Go.Joins Go.Sort Go.Lib Go.Shelf
set_option linter.unusedSimpArgs false
set_option linter.unusedVariables false

/-- Two lists of numbers, held against each other from the left. -/
def lexZ : List Int → List Int → Int
  | a :: r, b :: s => if cmpZ a b = 0 then lexZ r s else cmpZ a b
  | _, _ => 0
theorem cmpZ_neg {a b : Int} : cmpZ a b < 0 ↔ a < b := by unfold cmpZ; split <;> (try split) <;> omega
theorem cmpZ_zero {a b : Int} : cmpZ a b = 0 ↔ a = b := by unfold cmpZ; split <;> (try split) <;> omega
theorem lexZ_cons {a b : Int} {r s : List Int} : lexZ (a :: r) (b :: s) < 0 ↔ a < b ∨ (a = b ∧ lexZ r s < 0) := by
  show (if cmpZ a b = 0 then lexZ r s else cmpZ a b) < 0 ↔ _
  by_cases h : cmpZ a b = 0
  · rw [if_pos h]
    have e := cmpZ_zero.1 h
    exact ⟨fun q => .inr ⟨e, q⟩, fun q => by rcases q with q | q; (· omega); (· exact q.2)⟩
  · rw [if_neg h, cmpZ_neg]
    have e : ¬ a = b := fun q => h (cmpZ_zero.2 q)
    exact ⟨fun q => .inl q, fun q => by rcases q with q | q; (· exact q); (· exact absurd q.1 e)⟩
theorem lexZ_irrefl : ∀ a : List Int, ¬ lexZ a a < 0
  | [] => by unfold lexZ; omega
  | a :: r => by
    rw [lexZ_cons]
    rintro (h | ⟨_, h⟩)
    · omega
    · exact lexZ_irrefl r h
theorem lexZ_trans : ∀ (n : Nat) (a b c : List Int), a.length = n → b.length = n → c.length = n → lexZ a b < 0 → lexZ b c < 0 → lexZ a c < 0
  | 0, a, b, c, ha, hb, hc, h, _ => by
    have e1 := List.length_eq_zero_iff.1 ha
    subst e1
    unfold lexZ at h
    omega
  | n + 1, a :: r, b :: s, c :: t, ha, hb, hc, h, k => by
    rw [lexZ_cons] at h k ⊢
    have ih := lexZ_trans n r s t (by simpa using ha) (by simpa using hb) (by simpa using hc)
    rcases h with h | ⟨h1, h2⟩ <;> rcases k with k | ⟨k1, k2⟩
    · exact .inl (by omega)
    · exact .inl (by omega)
    · exact .inl (by omega)
    · exact .inr ⟨by omega, ih h2 k2⟩
theorem lexZ_ntrans : ∀ (n : Nat) (a b c : List Int), a.length = n → b.length = n → c.length = n → ¬ lexZ a b < 0 → ¬ lexZ b c < 0 → ¬ lexZ a c < 0
  | 0, a, b, c, ha, hb, hc, h, _ => by
    have e1 := List.length_eq_zero_iff.1 ha
    subst e1
    unfold lexZ
    omega
  | n + 1, a :: r, b :: s, c :: t, ha, hb, hc, h, k => by
    rw [lexZ_cons] at h k ⊢
    have ih := lexZ_ntrans n r s t (by simpa using ha) (by simpa using hb) (by simpa using hc)
    rintro (q | ⟨q1, q2⟩)
    · have h1 : ¬ a < b := fun x => h (.inl x)
      have k1 : ¬ b < c := fun x => k (.inl x)
      omega
    · have h1 : ¬ a < b := fun x => h (.inl x)
      have k1 : ¬ b < c := fun x => k (.inl x)
      exact ih (fun x => h (.inr ⟨by omega, x⟩)) (fun x => k (.inr ⟨by omega, x⟩)) q2
theorem lexZ_zero : ∀ (n : Nat) (a b : List Int), a.length = n → b.length = n → ¬ lexZ a b < 0 → ¬ lexZ b a < 0 → a = b
  | 0, a, b, ha, hb, _, _ => by rw [List.length_eq_zero_iff.1 ha, List.length_eq_zero_iff.1 hb]
  | n + 1, a :: r, b :: s, ha, hb, h, k => by
    rw [lexZ_cons] at h k
    have e : a = b := by
      have h1 : ¬ a < b := fun x => h (.inl x)
      have k1 : ¬ b < a := fun x => k (.inl x)
      omega
    subst e
    rw [lexZ_zero n r s (by simpa using ha) (by simpa using hb) (fun x => h (.inr ⟨rfl, x⟩)) (fun x => k (.inr ⟨rfl, x⟩))]
/-- What a stand is held by. -/
def keyP (p : TX × Nat × Nat) : List Int := [p.1.stamp, p.1.origin, p.1.seq, p.2.1, p.2.2]
def shp (d : ST) : TX × Nat × Nat := (d.t, d.m, d.k)
theorem ordC_key (x y : ST) : ordC x y = lexZ (keyP (shp x)) (keyP (shp y)) := rfl
def ltP (p q : TX × Nat × Nat) : Prop := lexZ (keyP p) (keyP q) < 0
/-- No later one stands ahead of an earlier one. -/
def SortedP (L : List (TX × Nat × Nat)) : Prop := L.Pairwise fun p q => ¬ ltP q p

set_option maxRecDepth 100000 in
set_option maxHeartbeats 2000000 in
theorem ins0 (v f : Value) (w : World) : Calls Try.prog 72 #[v, .int .i64 0, .int .i64 0, f] w fun e w' => e = .returned (.tuple #[]) ∧ w' = w := by
  go_enter Try.func72, Try.ntmps72
  go_wp2_with fail
  go_loopw [8] (fun i wr => i = .int .i64 1 ∧ wr = w) (fun _ _ => 0)
  case atStart => exact ⟨rfl, rfl⟩
  case round =>
    obtain ⟨rfl, rfl⟩ := hrel
    go_wp2_with fail
    go_end0
    exact ⟨rfl, rfl⟩
set_option maxRecDepth 100000 in
set_option maxHeartbeats 4000000 in
theorem pdq0 (v f : Value) (k : Int) (w : World) : Calls Try.prog 57 #[v, .int .i64 0, .int .i64 0, .int .i64 k, f] w fun e w' => e = .returned (.tuple #[]) ∧ w' = w := by
  have HI := Lib.hid (fun w1 => ins0 v f w1)
  go_enter Try.func57, Try.ntmps57
  go_wp2_with fail
  go_loopw [1, 2] (fun i j wr => i = .int .i64 0 ∧ j = .int .i64 0 ∧ wr = w) (fun _ _ _ => 0)
  case atStart => exact ⟨rfl, rfl, rfl⟩
  case round =>
    obtain ⟨rfl, rfl, rfl⟩ := hrel
    go_wp2_with fail
    refine (HI.out _).mono ?_
    rintro e w1 ⟨rfl, hw⟩
    subst hw
    go_wp2_with fail
    exact bodyPost_ret (v := .tuple #[]) (results_none (by kernel_rfl) _ _ _) rfl ⟨rfl, rfl⟩
set_option maxRecDepth 100000 in
set_option maxHeartbeats 4000000 in
theorem sort0 (A : Option Addr) (c : Nat) (w : World) : Calls Try.prog 40 #[.slice A 0 c, .func (.func 41) #[] #[]] w fun e w' => e = .returned (.tuple #[]) ∧ w' = w := by
  have HL := Lib.hid (fun w1 => Any.bits_Len (SlLaysF0.n15.bits (P := Try.prog) (ρ := laysSf_ren) { laysSf with }) 0 w1 (by omega) (by omega))
  have HP := Lib.hid (fun k w1 => pdq0 (.slice A 0 c) (.func (.func 41) #[] #[]) k w1)
  go_enter Try.func40, Try.ntmps40
  go_wp2_with fail
  refine (HL.out _).mono ?_
  rintro e w1 ⟨rfl, hw⟩
  subst hw
  go_wp2_with fail
  refine (HP.out _ _).mono ?_
  rintro e w2 ⟨rfl, hw⟩
  subst hw
  go_wp2_with fail
  go_end0
  exact ⟨rfl, rfl⟩
end Go.Proofs.Ytlgljanofppleaa
/-! Walks: slices.SortFunc over stands. -/
namespace Go.Proofs.Ytlgljanofppleaa
open Go.RowKit Go.Joins Go.Sort Go.Lib Go.Shelf
set_option linter.unusedSimpArgs false
set_option linter.unusedVariables false

theorem gr_sortK {α : Type} [Inhabited α] {enc : α → List Value} {k m g off : Nat} {d : Array α} {os : Array Obj} {w0 w : World} (h : Gr w0 w) (hg : w0.heap.size ≤ g) : Gr w0 (sortWorldK enc k w g off m d os) := by
  have hs : (putRowK enc k (Go.Sort.ahead w m) g off d).heap.size = w.heap.size := by simp [putRowK, putRow, mapBlock, Go.Sort.ahead]
  refine ⟨h.os, h.tape, h.output, ?_, fun x hx => ?_⟩
  · have := h.size
    show w0.heap.size ≤ (grow _ os).heap.size
    rw [size_grow, hs]
    omega
  · have hlt : x < (putRowK enc k (Go.Sort.ahead w m) g off d).heap.size := by have := h.size; omega
    show (grow _ os).heap[x]? = _
    rw [heap_grow_old _ _ hlt]
    have hne : g ≠ x := by omega
    show (w.heap.modify g _)[x]? = _
    rw [Array.getElem?_modify, if_neg hne]
    exact h.block x hx
/-- Stands that lie in the world w0, none in the block g. -/
abbrev AS (w0 : World) : Type := { x : ST // XCell w0 x.b x.o x.t ∧ x.b < w0.heap.size }
def encA {w0 : World} (x : AS w0) : List Value := scell x.1
def cfA {w0 : World} (x y : AS w0) : Int := ordC x.1 y.1
theorem keyP_len (p : TX × Nat × Nat) : (keyP p).length = 5 := rfl
theorem swoA (w0 : World) : SWO (ltOf (cfA (w0 := w0))) where
  irrefl x := by
    unfold ltOf cfA
    rw [ordC_key]
    exact decide_eq_false (lexZ_irrefl _)
  trans x y z h1 h2 := by
    unfold ltOf cfA at *
    rw [ordC_key] at *
    exact decide_eq_true (lexZ_trans 5 _ _ _ rfl rfl rfl (of_decide_eq_true h1) (of_decide_eq_true h2))
  ntrans x y z h1 h2 := by
    unfold ltOf cfA at *
    rw [ordC_key] at *
    exact decide_eq_false (lexZ_ntrans 5 _ _ _ rfl rfl rfl (of_decide_eq_false h1) (of_decide_eq_false h2))
theorem cmpLaysA {w0 w : World} {g off size : Nat} [Inhabited (AS w0)] (h : Gr w0 w) (hg : w0.heap.size ≤ g) : CmpLays Try.prog 41 #[] (encA (w0 := w0)) 3 cfA g off size w := by
  intro m os dk hs x y
  have gr : Gr w0 (sortWorldK (encA (w0 := w0)) 3 w g off m dk os) := gr_sortK h hg
  exact inOrder_any x.1 y.1 _ (x.2.1.gr gr).hc (y.2.1.gr gr).hc
theorem isAggSt : ∀ w, (isAgg 66).run Try.prog w = .ok true w := fun w => by show _ = _; kernel_rfl
theorem sizeSt : ∀ w, (Go.sizeOf 66).run Try.prog w = .ok 3 w := fun w => by show _ = _; kernel_rfl
/-- Sorted stands. -/
def SortedS (D : List ST) : Prop := SortedP (D.map shp)
set_option maxRecDepth 100000 in
set_option maxHeartbeats 4000000 in
theorem sort_any (D : List ST) (A : Option Addr) (n c : Nat) (w0 w : World) (hgr : Gr w0 w) (ho : SDO w w0.heap.size (.slice A n c) D) (hn : n = D.length) (hx : SXs w0 D) (hlt : ∀ d ∈ D, d.b < w0.heap.size) (hlen : D.length ≤ 1000000) :
    Calls Try.prog 40 #[.slice A n c, .func (.func 41) #[] #[]] w fun e w' => e = .returned (.tuple #[]) ∧ ∃ D', SDV w' (.slice A n c) D' ∧ D'.Perm D ∧ SortedS D' ∧ Gr w0 w' := by
  subst hn
  by_cases hz : D = []
  · subst hz
    exact (sort0 A c w).mono fun e w' ⟨he, hw⟩ => ⟨he, [], by rw [hw]; exact ho.dv, List.Perm.refl _, List.Pairwise.nil, by rw [hw]; exact hgr⟩
  · have hpos : 0 < D.length := List.length_pos_iff.2 hz
    have hown : w.ownsRow w0.heap.size 66 3 (.slice A D.length c) D.length (scells D) := ho
    obtain ⟨g, hA⟩ := own_blk hown hpos
    subst hA
    obtain ⟨hcn, hcm, hgb, hgl⟩ := own_len hown
    obtain ⟨dl, hdl⟩ : ∃ dl : List (AS w0), dl.map (·.1) = D := ⟨D.attach.map fun x => ⟨x.1, hx x.1 x.2, hlt x.1 x.2⟩, by simp⟩
    have hll : dl.length = D.length := by rw [← hdl, List.length_map]
    cases hdd : dl with
    | nil => rw [hdd] at hll; simp at hll; omega
    | cons x0 rest =>
      letI : Inhabited (AS w0) := ⟨x0⟩
      have hd : ∀ j (hj : j < dl.length), dl.toArray[j]! = dl[j] := fun j hj => by simp [getElem!_pos, hj]
      have hH : HoldsK (encA (w0 := w0)) 3 w g 0 dl.toArray := by
        intro t ht
        rw [size_flatK] at ht
        have ht2 : t < D.length * 3 := by rw [← hll]; simpa using ht
        refine ⟨?_, own_free hown _⟩
        have hq : t / 3 < dl.length := by rw [hll]; omega
        have hcell := own_cell hown (j := t) (u := (encA (dl[t / 3]))[t % 3]!) (by
          have h1 := rows_at scell 3 scell_len D (t / 3) (t % 3) (by omega) (by omega)
          have h2 : t / 3 * 3 + t % 3 = t := by omega
          rw [h2] at h1
          show (D.flatMap scell)[t]? = _
          rw [h1]
          have h3 : D[t / 3]'(by omega) = dl[t / 3].1 := by
            have := congrArg (fun z : List ST => z[t / 3]?) hdl
            simp only [List.getElem?_map] at this
            rw [List.getElem?_eq_getElem hq, List.getElem?_eq_getElem (by omega)] at this
            exact (Option.some.inj this).symm
          rw [h3]
          have h4 : t % 3 < (scell dl[t / 3].1).length := by rw [scell_len]; omega
          rw [List.getElem?_eq_getElem h4]
          show some _ = some ((scell dl[t / 3].1)[t % 3]!)
          exact congrArg some (getElem!_pos (scell dl[t / 3].1) (t % 3) h4).symm)
        rw [Nat.zero_add, hcell, get_flatK _ _ _ _ (by simpa using (by rw [hll]; exact ht2 : t < dl.length * 3)), hd _ hq]
        rfl
      have hcon := AnyQ.slices_SortFunc laysSf 3 isAggSt sizeSt (encA (w0 := w0)) (fun _ => rfl) (fun x v hv => scells_one [x.1] v (by unfold scells; rw [List.flatMap_cons, List.flatMap_nil, List.append_nil]; exact hv)) cfA (swoA w0) 41 #[] g 0 c dl.toArray w
        (enters_of Try.func41 (by kernel_rfl) rfl) (cmpLaysA hgr hgb) hH hgl (by simp; omega)
      rw [show dl.toArray.size = D.length by simpa using hll] at hcon
      refine Calls.mono (show Calls Try.prog 40 _ w _ from hcon) ?_
      rintro e w' ⟨he, d', m, os, hp, hs, hw⟩
      have hsz : d'.size = D.length := by rw [hp.1]; simpa using hll
      have hH2 : HoldsK (encA (w0 := w0)) 3 w' g 0 d' := by rw [hw]; exact holdsK_sortWorldK _ 3 w g 0 m dl.toArray d' os hgl hH (by rw [hsz]; simpa using hll.symm)
      have hcl : (d'.toList.map (·.1)).length = D.length := by rw [List.length_map, Array.length_toList, hsz]
      refine ⟨he, d'.toList.map (·.1), ?_, ?_, ?_, by rw [hw]; exact gr_sortK hgr hgb⟩
      · refine ⟨some ⟨g, 0, none⟩, c, by rw [hcl], by rw [hcl]; exact hcn, ⟨by have := (own_len hown).2.1; exact this, fun e => by cases e⟩, fun j hj => ⟨g, 0, rfl, ?_⟩⟩
        rw [hcl] at hj
        have hjs : j < d'.size := by rw [hsz]; exact hj
        have e : (d'.toList.map (·.1))[j] = (d'[j]!).1 := by simp [getElem!_pos, hjs]
        rw [e]
        exact ⟨(hH2.cell hjs (c := 0) (by decide)).1, (hH2.cell hjs (c := 1) (by decide)).1, (hH2.cell hjs (c := 2) (by decide)).1⟩
      · have h1 := hp.2.2
        have h2 : (d'.extract 0 D.length).toList = d'.toList := by rw [← hsz, Array.extract_size]
        have h3 : (dl.toArray.extract 0 D.length).toList = dl := by
          rw [show D.length = dl.toArray.size by simpa using hll.symm, Array.extract_size]
        rw [h2, h3] at h1
        have h4 := h1.map (·.1)
        rw [hdl] at h4
        exact h4
      · unfold SortedS SortedP
        rw [List.map_map, List.pairwise_iff_getElem]
        intro a b ha hb hab
        rw [List.length_map] at ha hb
        have hbs : b < d'.size := by simpa using hb
        have has : a < d'.size := by simpa using ha
        have h1 := hs a b (Nat.zero_le _) hab (by rw [← hsz]; exact hbs)
        unfold ltOf cfA at h1
        have h2 := of_decide_eq_false h1
        rw [ordC_key] at h2
        simp only [List.getElem_map, Function.comp]
        have e1 : d'.toList[a]'(by simpa using has) = d'[a]! := by simp [getElem!_pos, has]
        have e2 : d'.toList[b]'(by simpa using hbs) = d'[b]! := by simp [getElem!_pos, hbs]
        rw [e1, e2]
        exact h2
end Go.Proofs.Ytlgljanofppleaa
