/- The library's binary search, by the shelf's contract; the place of a key in rising pairs. -/
import Derived.Test.YtnihnkcmmnlaaaaDoorTabM
import Derived.Test.YtnihnkcmmnlaaaaDoorLibC
import Derived.Shelf.SlSorted.Search
namespace Go.Proofs.YtnihnkcmmnlaaaaDoor
open Go.Shelf Go.RowKit Go.Lib Go.Sort
def laysSr_ren : Go.Shelf.Ren := ⟨fun | 16 => 42 | n => n, fun | 3 => 3 | 4 => 4 | 35 => 72 | 38 => 40 | n => n, fun | n => n⟩
theorem laysSr : Go.Proofs.SlLaysO.n16 Tryd.prog laysSr_ren := {
  mixed := by kernel_rfl
  f16 := Tryd.func42.trans (congrArg some (by kernel_rfl))
  t3 := Tryd.underlying3
  a3 := Tryd.isAgg3
  z3 := Tryd.sizeOf3
  v3 := Tryd.zeroValue3
  t4 := Tryd.underlying4
  a4 := Tryd.isAgg4
  z4 := Tryd.sizeOf4
  v4 := Tryd.zeroValue4
  t35 := Tryd.underlying72
  a35 := Tryd.isAgg72
  z35 := Tryd.sizeOf72
  v35 := Tryd.zeroValue72
  t38 := Tryd.underlying40
  a38 := Tryd.isAgg40
  z38 := Tryd.sizeOf40
  v38 := Tryd.zeroValue40 }
theorem gr_grow (w : World) (q : Nat) (os : Array Obj) : Gr w (grow (w.drewN q) os) := below_grown_sl w.heap.size w q os (Nat.le_refl _)

/-- How many pairs have keys below this one. -/
def placeN (L : List PR) (key : ByteArray) : Nat := L.countP fun p => lessS p.key key
theorem placeN_le (L : List PR) (key : ByteArray) : placeN L key ≤ L.length := List.countP_le_length
theorem keyAt_lt {L : List PR} {i : Nat} (h : i < L.length) : keyAt L i = L[i].key := key_at h
theorem count_keys (L : List PR) (key : ByteArray) : (List.range L.length).countP (fun i => !(!lessS (keyAt L i) key)) = placeN L key := by
  have h : L.map (·.key) = (List.range L.length).map (keyAt L) := by
    apply List.ext_getElem
    · simp
    · intro i h1 h2
      simp only [List.getElem_map, List.getElem_range]
      rw [key_at (by simpa using h1)]
  have e1 : placeN L key = (L.map (·.key)).countP (fun k => lessS k key) := by unfold placeN; rw [List.countP_map]; rfl
  rw [e1, h, List.countP_map]
  congr 1
  funext i
  simp
theorem rises_lt {L : List PR} (h : rises L) : ∀ (d i : Nat) (hj : i + d + 1 < L.length), lessS L[i].key L[i + d + 1].key = true
  | 0, i, hj => h i hj
  | d + 1, i, hj => lessS_trans (rises_lt h d i (by omega)) (h (i + d + 1) hj)
theorem rises_at {L : List PR} (h : rises L) {i j : Nat} (hij : i < j) (hj : j < L.length) : lessS (L[i]'(by omega)).key L[j].key = true := by
  obtain ⟨d, rfl⟩ : ∃ d, j = i + d + 1 := ⟨j - i - 1, by omega⟩
  exact rises_lt h d i hj
/-- A key that is below a later pair's is below all that lie on. -/
theorem below_mono {L : List PR} (h : rises L) {key : ByteArray} {i j : Nat} (hij : i ≤ j) (hj : j < L.length) (hl : lessS L[j].key key = true) : lessS (L[i]'(by omega)).key key = true := by
  rcases Nat.lt_or_ge i j with e | e
  · exact lessS_trans (rises_at h e hj) hl
  · obtain rfl : i = j := by omega
    exact hl

set_option maxRecDepth 100000 in
theorem place1_any (i n c : Nat) (L : List PR) (A : Option Addr) (key : ByteArray) (b1 b2 : Nat) (w : World) (hn : n = L.length) (hi : i < n) (c1 : w.cell? ⟨b1, 0, none⟩ = some (.slice A n c)) (c2 : w.cell? ⟨b2, 0, none⟩ = some (.string key)) (hv : PV w (.slice A n c) L) :
    Calls Tryd.prog 43 #[.int .i64 (i : Int), .pointer (some ⟨b1, 0, none⟩), .pointer (some ⟨b2, 0, none⟩)] w fun e w' => e = .returned (.bool (!lessS (keyAt L i) key)) ∧ ∃ q, w' = w.drewN q := by
  obtain ⟨A', c', hvv, l1, ⟨l2, _⟩, l3⟩ := hv
  injection hvv with e1 e2 e3
  subst e1 e3
  have hc63 : c ≤ 9223372036854775807 := l2
  obtain ⟨b, off, rfl, q0, -⟩ := l3 i (by omega)
  rw [key_at (by omega)]
  obtain ⟨x, hx⟩ : ∃ x, x = (L[i]'(by omega)).key := ⟨_, rfl⟩
  rw [← hx] at q0 ⊢
  have t0 : (0 : Int) ≤ (i : Int) := by omega
  have t1 : (i : Int) < (n : Int) := by omega
  obtain ⟨r, hr⟩ : ∃ r, r = lessS x key := ⟨_, rfl⟩
  rw [← hr]
  have ht : Go.Op.bytesLess x.toList key.toList = r := hr.symm
  clear l1 l2 l3 hx hr hn
  go_enter Tryd.func43, Tryd.ntmps43
  go_wp2_with fail
  go_quiet (fail)
  go_wp2
  go_ret
  exact ⟨rfl, _, rfl⟩
set_option maxRecDepth 100000 in
set_option maxHeartbeats 1000000 in
theorem place_any (v : Value) (L : List PR) (key : ByteArray) (w : World) (hv : PV w v L) (hr : rises L) (hl : L.length ≤ 1024) :
    Calls Tryd.prog 32 #[v, .string key] w fun e w' => e = .returned (.int .i64 (placeN L key : Int)) ∧ Gr w w' := by
  obtain ⟨A, c, rfl⟩ := pv_form hv
  obtain ⟨W0, hW0⟩ : ∃ W0, W0 = (w.alloc (.cells #[.slice A L.length c] 22)).alloc (.cells #[.string key] 9) := ⟨_, rfl⟩
  have G0 : Gr w W0 := by rw [hW0]; exact ((Gr.refl w).alloc _).alloc _
  have ca : W0.cell? ⟨w.heap.size, 0, none⟩ = some (.slice A L.length c) := by rw [hW0]; exact cell_alloc_sl _ (cell_new_sl w _ _)
  have cx : W0.cell? ⟨w.heap.size + 1, 0, none⟩ = some (.string key) := by rw [hW0]; have := cell_new_sl (w.alloc (.cells #[.slice A L.length c] 22)) (.string key) 9; rwa [World.size_alloc] at this
  have hS := Any.sort_Search (P := Tryd.prog) (ρ := laysSr_ren) laysSr 43 #[.pointer (some ⟨w.heap.size, 0, none⟩), .pointer (some ⟨w.heap.size + 1, 0, none⟩)] L.length (fun i => !lessS (keyAt L i) key) W0
    (enters_of (Tryd.func43) (by kernel_rfl) rfl) (by omega)
    (fun m os i hi => (place1_any i L.length c L A key w.heap.size (w.heap.size + 1) _ rfl hi ((gr_grow W0 m os).cell ca) ((gr_grow W0 m os).cell cx) (hv.gr (G0.trans (gr_grow W0 m os)))).mono
      fun _ _ ⟨he, q, hq⟩ => ⟨he, q, #[], by rw [hq, grow_empty]⟩)
    (fun a b hab hb h => by
      rw [key_at (by omega), Bool.not_eq_true'] at h
      show (!lessS (keyAt L b) key) = true
      rw [key_at hb, Bool.not_eq_true']
      rw [Bool.eq_false_iff]
      intro hlt
      rw [below_mono hr hab hb hlt] at h
      cases h)
  rw [count_keys] at hS
  have HS := Lib.hid hS
  have HG := Lib.hid G0
  clear ca cx hS G0 hv
  obtain ⟨n, hn⟩ : ∃ n, n = L.length := ⟨_, rfl⟩
  rw [← hn] at HS hW0 hl ⊢
  have HW := Lib.hid hW0
  clear hn hW0
  go_enter Tryd.func32, Tryd.ntmps32
  go_wp2_with fail
  rw [← HW.out]
  refine HS.out.mono ?_
  rintro e w' ⟨rfl, q, os, rfl⟩
  go_wp2_with fail
  go_ret
  exact ⟨rfl, HG.out.trans (gr_grow W0 q os)⟩
end Go.Proofs.YtnihnkcmmnlaaaaDoor
