/- The library's binary search, by the shelf's contract; the place of a key in rising pairs. Plain mathematics of asking a table: one key, the keys from one on and below another one. Walks: All, Clone, Get, Range, the program's. Walks: Get, Range, the program's. Walks: living changes, changes as pairs, the document's. Disks as they are read: a slice of files; the document's find and Bytes. Walks: the record of a batch, a table's name, the document's. -/
import Derived.Test.YtccjkfccklfjkaaGreatDoorZs07
import Derived.Test.YtccjkfccklfjkaaGreatDoorZs01
import Derived.Shelf.SlSorted.Search
import Derived.Test.YtccjkfccklfjkaaGreatDoorZs10
import Derived.Lib.SliceRun
import Derived.Test.YtccjkfccklfjkaaGreatDoorZs05
import Derived.BigFrame
import Derived.Test.YtccjkfccklfjkaaGreatDoorZs03
import Derived.BigQuiet
import Derived.Deep.QuietTactic
import Derived.WalkSpells
import Derived.WalkLawsBesides
import Derived.Outline
namespace Go.Proofs.YtccjkfccklfjkaaGreatDoor
open Go.Shelf Go.RowKit Go.Lib Go.Sort
def laysSr_ren : Go.Shelf.Ren := ⟨fun | 16 => 130 | n => n, fun | 3 => 3 | 4 => 4 | 35 => 161 | 38 => 152 | n => n, fun | n => n⟩
theorem laysSr : Go.Proofs.SlLaysO.n16 Tryz.prog laysSr_ren := {
  mixed := by kernel_rfl
  f16 := Tryz.func130.trans (congrArg some (by kernel_rfl))
  t3 := Tryz.underlying3
  a3 := Tryz.isAgg3
  z3 := Tryz.sizeOf3
  v3 := Tryz.zeroValue3
  t4 := Tryz.underlying4
  a4 := Tryz.isAgg4
  z4 := Tryz.sizeOf4
  v4 := Tryz.zeroValue4
  t35 := Tryz.underlying161
  a35 := Tryz.isAgg161
  z35 := Tryz.sizeOf161
  v35 := Tryz.zeroValue161
  t38 := Tryz.underlying152
  a38 := Tryz.isAgg152
  z38 := Tryz.sizeOf152
  v38 := Tryz.zeroValue152 }
theorem gr_grow (w : World) (q : Nat) (os : Array Obj) : Gr w (grow (w.drewN q) os) := below_grown_sl w.heap.size w q os (Nat.le_refl _)

/-- How many pairs have keys below this one. -/
def placeN (L : List PR) (key : ByteArray) : Nat := L.countP fun p => lessS p.key key
theorem placeN_le (L : List PR) (key : ByteArray) : placeN L key ≤ L.length := List.countP_le_length
theorem count_keys (L : List PR) (key : ByteArray) : (List.range L.length).countP (fun i => !(!lessS (keyAt L i) key)) = placeN L key := by
  have h : L.map (·.key) = (List.range L.length).map (keyAt L) := by
    apply List.ext_getElem
    · simp
    · intro i h1 h2
      simp only [List.getElem_map, List.getElem_range]
      rw [key_at (by simpa using h1)]
  have e1 : placeN L key = (L.map (·.key)).countP (fun k => lessS k key) := by unfold placeN; rw [List.countP_map]; rfl
  rw [e1, h, List.countP_map]
  congr 1
  funext i
  simp
theorem rises_lt {L : List PR} (h : rises L) : ∀ (d i : Nat) (hj : i + d + 1 < L.length), lessS L[i].key L[i + d + 1].key = true
  | 0, i, hj => h i hj
  | d + 1, i, hj => lessS_trans (rises_lt h d i (by omega)) (h (i + d + 1) hj)
theorem rises_at {L : List PR} (h : rises L) {i j : Nat} (hij : i < j) (hj : j < L.length) : lessS (L[i]'(by omega)).key L[j].key = true := by
  obtain ⟨d, rfl⟩ : ∃ d, j = i + d + 1 := ⟨j - i - 1, by omega⟩
  exact rises_lt h d i hj
/-- A key that is below a later pair's is below all that lie on. -/
theorem below_mono {L : List PR} (h : rises L) {key : ByteArray} {i j : Nat} (hij : i ≤ j) (hj : j < L.length) (hl : lessS L[j].key key = true) : lessS (L[i]'(by omega)).key key = true := by
  rcases Nat.lt_or_ge i j with e | e
  · exact lessS_trans (rises_at h e hj) hl
  · obtain rfl : i = j := by omega
    exact hl

set_option maxRecDepth 100000 in
theorem place1_any (i n c : Nat) (L : List PR) (A : Option Addr) (key : ByteArray) (b1 b2 : Nat) (w : World) (hn : n = L.length) (hi : i < n) (c1 : w.cell? ⟨b1, 0, none⟩ = some (.slice A n c)) (c2 : w.cell? ⟨b2, 0, none⟩ = some (.string key)) (hv : PV w (.slice A n c) L) :
    Calls Tryz.prog 131 #[.int .i64 (i : Int), .pointer (some ⟨b1, 0, none⟩), .pointer (some ⟨b2, 0, none⟩)] w fun e w' => e = .returned (.bool (!lessS (keyAt L i) key)) ∧ ∃ q, w' = w.drewN q := by
  obtain ⟨A', c', hvv, l1, ⟨l2, _⟩, l3⟩ := hv
  injection hvv with e1 e2 e3
  subst e1 e3
  have hc63 : c ≤ 9223372036854775807 := l2
  obtain ⟨b, off, rfl, q0, -⟩ := l3 i (by omega)
  rw [key_at (by omega)]
  obtain ⟨x, hx⟩ : ∃ x, x = (L[i]'(by omega)).key := ⟨_, rfl⟩
  rw [← hx] at q0 ⊢
  have t0 : (0 : Int) ≤ (i : Int) := by omega
  have t1 : (i : Int) < (n : Int) := by omega
  obtain ⟨r, hr⟩ : ∃ r, r = lessS x key := ⟨_, rfl⟩
  rw [← hr]
  have ht : Go.Op.bytesLess x.toList key.toList = r := hr.symm
  clear l1 l2 l3 hx hr hn
  go_enter Tryz.func131, Tryz.ntmps131
  go_wp2_with fail
  go_quiet (fail)
  go_wp2
  go_ret
  exact ⟨rfl, _, rfl⟩
set_option maxRecDepth 100000 in
set_option maxHeartbeats 1000000 in
theorem place_any (v : Value) (L : List PR) (key : ByteArray) (w : World) (hv : PV w v L) (hr : rises L) (hl : L.length ≤ 1024) :
    Calls Tryz.prog 99 #[v, .string key] w fun e w' => e = .returned (.int .i64 (placeN L key : Int)) ∧ Gr w w' := by
  obtain ⟨A, c, rfl⟩ := pv_form hv
  obtain ⟨W0, hW0⟩ : ∃ W0, W0 = (w.alloc (.cells #[.slice A L.length c] 48)).alloc (.cells #[.string key] 9) := ⟨_, rfl⟩
  have G0 : Gr w W0 := by rw [hW0]; exact ((Gr.refl w).alloc _).alloc _
  have ca : W0.cell? ⟨w.heap.size, 0, none⟩ = some (.slice A L.length c) := by rw [hW0]; exact cell_alloc_sl _ (cell_new_sl w _ _)
  have cx : W0.cell? ⟨w.heap.size + 1, 0, none⟩ = some (.string key) := by rw [hW0]; have := cell_new_sl (w.alloc (.cells #[.slice A L.length c] 48)) (.string key) 9; rwa [World.size_alloc] at this
  have hS := Any.sort_Search (P := Tryz.prog) (ρ := laysSr_ren) laysSr 131 #[.pointer (some ⟨w.heap.size, 0, none⟩), .pointer (some ⟨w.heap.size + 1, 0, none⟩)] L.length (fun i => !lessS (keyAt L i) key) W0
    (enters_of (Tryz.func131) (by kernel_rfl) rfl) (by omega)
    (fun m os i hi => (place1_any i L.length c L A key w.heap.size (w.heap.size + 1) _ rfl hi ((gr_grow W0 m os).cell ca) ((gr_grow W0 m os).cell cx) (hv.gr (G0.trans (gr_grow W0 m os)))).mono
      fun _ _ ⟨he, q, hq⟩ => ⟨he, q, #[], by rw [hq, grow_empty]⟩)
    (fun a b hab hb h => by
      rw [key_at (by omega), Bool.not_eq_true'] at h
      show (!lessS (keyAt L b) key) = true
      rw [key_at hb, Bool.not_eq_true']
      rw [Bool.eq_false_iff]
      intro hlt
      rw [below_mono hr hab hb hlt] at h
      cases h)
  rw [count_keys] at hS
  have HS := Lib.hid hS
  have HG := Lib.hid G0
  clear ca cx hS G0 hv
  obtain ⟨n, hn⟩ : ∃ n, n = L.length := ⟨_, rfl⟩
  rw [← hn] at HS hW0 hl ⊢
  have HW := Lib.hid hW0
  clear hn hW0
  go_enter Tryz.func99, Tryz.ntmps99
  go_wp2_with fail
  rw [← HW.out]
  refine HS.out.mono ?_
  rintro e w' ⟨rfl, q, os, rfl⟩
  go_wp2_with fail
  go_ret
  exact ⟨rfl, HG.out.trans (gr_grow W0 q os)⟩
end Go.Proofs.YtccjkfccklfjkaaGreatDoor
namespace Go.Proofs.YtccjkfccklfjkaaGreatDoor
open Go.RowKit

/-- The value of a key. -/
def getR (L : List PR) (key : ByteArray) : Option ByteArray := (L.find? fun p => eqS p.key key).map PR.val
theorem place_at {L : List PR} (h : rises L) {j : Nat} (hj : j < L.length) : placeN L L[j].key = j := by
  unfold placeN
  have e : L = L.take j ++ L.drop j := (List.take_append_drop j L).symm
  have h1 : (L.take j).countP (fun p => lessS p.key L[j].key) = j := by
    rw [List.countP_eq_length.2]
    · rw [List.length_take]; omega
    · intro p hp
      obtain ⟨i, hi, rfl⟩ := List.mem_iff_getElem.1 hp
      rw [List.length_take] at hi
      rw [List.getElem_take]
      exact rises_at h (by omega) hj
  have h2 : (L.drop j).countP (fun p => lessS p.key L[j].key) = 0 := by
    rw [List.countP_eq_zero]
    intro p hp hl
    obtain ⟨i, hi, rfl⟩ := List.mem_iff_getElem.1 hp
    rw [List.length_drop] at hi
    rw [List.getElem_drop] at hl
    rcases Nat.eq_zero_or_pos i with e | e
    · subst e
      rw [show L[j + 0] = L[j] from rfl, lessS_irrefl] at hl
      cases hl
    · have := rises_at h (i := j) (j := j + i) (by omega) (by omega)
      rw [lessS_asymm hl] at this
      cases this
  have h3 := List.countP_append (p := fun p => lessS p.key L[j].key) (l₁ := L.take j) (l₂ := L.drop j)
  rw [← e, h1, h2] at h3
  exact h3
theorem get_found {L : List PR} (h : rises L) {j : Nat} (hj : j < L.length) : getR L L[j].key = some L[j].val := by
  unfold getR
  cases hf : L.find? (fun p => eqS p.key L[j].key) with
  | none =>
    have := List.find?_eq_none.1 hf L[j] (List.getElem_mem hj)
    rw [eqS_self] at this
    exact absurd rfl this
  | some p =>
    have h1 := List.find?_some hf
    have h2 := List.mem_of_find?_eq_some hf
    obtain ⟨i, hi, rfl⟩ := List.mem_iff_getElem.1 h2
    have h3 : L[i].key = L[j].key := eqS_iff.1 h1
    have h4 := place_at h hi
    rw [h3, place_at h hj] at h4
    subst h4
    rfl
theorem get_none {L : List PR} (h : rises L) {key : ByteArray} (hn : ∀ hi : placeN L key < L.length, L[placeN L key].key ≠ key) : getR L key = none := by
  unfold getR
  rw [Option.map_eq_none_iff, List.find?_eq_none]
  intro p hp he
  obtain ⟨i, hi, rfl⟩ := List.mem_iff_getElem.1 hp
  have h1 : L[i].key = key := eqS_iff.1 he
  have h2 := place_at h hi
  rw [h1] at h2
  refine hn (by omega) ?_
  have h3 : ∀ (k : Nat) (hk : k < L.length), k = i → L[k].key = key := fun k hk e => by subst e; exact h1
  exact h3 _ _ h2
end Go.Proofs.YtccjkfccklfjkaaGreatDoor
namespace Go.Proofs.YtccjkfccklfjkaaGreatDoor
open Go.RowKit

/-- What All answers. -/
def RetAll (o : Option (List PR)) (w : World) (e : Ending) (w' : World) : Prop :=
  match o with
  | none => e = .returned (.tuple #[.slice none 0 0, .int .i64 60]) ∧ Gr w w'
  | some L => ∃ v, e = .returned (.tuple #[v, .int .i64 0]) ∧ PV w' v L ∧ (∀ p ∈ L, p.key.size ≤ 65536 ∧ p.val.size ≤ 65536) ∧ Gr w w'
/-- .. the pairs in new memory. -/
def RetAllO (o : Option (List PR)) (w : World) (e : Ending) (w' : World) : Prop :=
  match o with
  | none => e = .returned (.tuple #[.slice none 0 0, .int .i64 60]) ∧ Gr w w'
  | some L => ∃ v, e = .returned (.tuple #[v, .int .i64 0]) ∧ PO w' w.heap.size v L ∧ (∀ p ∈ L, p.key.size ≤ 65536 ∧ p.val.size ≤ 65536) ∧ Gr w w'
theorem RetAllO.all {o : Option (List PR)} {w w' : World} {e : Ending} (h : RetAllO o w e w') : RetAll o w e w' := by
  cases o with
  | none => exact h
  | some L =>
    obtain ⟨v, h1, h2, h3⟩ := h
    exact ⟨v, h1, h2.pv, h3⟩
theorem small_big {L : List PR} (h : ∀ p ∈ L, p.key.size ≤ 65536 ∧ p.val.size ≤ 65536) : ∀ p ∈ L, p.key.size ≤ 281474976710656 ∧ p.val.size ≤ 281474976710656 := fun p hp => by have := h p hp; omega
theorem bs_eq {l : List UInt8} {s : ByteArray} : bs l = s ↔ l = s.data.toList := by
  constructor
  · rintro rfl
    rfl
  · rintro rfl
    exact bs_data s
set_option maxRecDepth 100000 in
set_option maxHeartbeats 1000000 in
theorem all_own (s : ByteArray) (hs : s.size ≤ maxLen) (w : World) (hH : Halves w) :
    Calls Tryz.prog 98 #[.string s] w fun e w' => RetAllO (allR s.data.toList) w e w' := by
  have H1 := Lib.hid (inBlocks_any s hs w hH)
  have HH := Lib.hid hH
  clear hH hs
  rcases hi : inB s.data.toList with _ | L
  · have HA := Lib.hid (allR_none hi)
    rw [hi] at H1
    clear hi
    go_enter Tryz.func98, Tryz.ntmps98
    go_wp2_with fail
    refine H1.out.mono ?_
    rintro e w1 ⟨rfl, g1⟩
    go_wp2_with fail
    go_ret2
    rw [HA.out]
    exact ⟨rfl, g1⟩
  · rw [hi] at H1
    by_cases hok : okTab L
    · have HB := Lib.hid (buildR_ok hok)
      have HB2 := Lib.hid (fun (v : Value) (w1 : World) (hv : PV w1 v L) (hm : ∀ p ∈ L, p.key.size ≤ 65536 ∧ p.val.size ≤ 65536) (g : Gr w w1) => by
        have := build_any v L w1 hv (small_big hm) (HH.out.gr g)
        rw [HB.out] at this
        exact this)
      obtain ⟨T, hT⟩ : ∃ T, T = bs (tabL L) := ⟨_, rfl⟩
      rw [← hT] at HB2
      have hTs : T = s ↔ tabL L = s.data.toList := by rw [hT]; exact bs_eq
      by_cases he : T = s
      · have HA := Lib.hid (allR_yes hi ⟨hok, hTs.1 he⟩)
        have heq : (T.toList == s.toList) = true := eqS_iff.2 he
        clear hi hok hT hTs he HB
        go_enter Tryz.func98, Tryz.ntmps98
        go_wp2_with fail
        refine H1.out.mono ?_
        rintro e w1 ⟨v1, rfl, hp1, hsm, hl1, g1⟩
        have HPO1 := Lib.hid hp1
        have HP1 := Lib.hid hp1.pv
        have HSM := Lib.hid hsm
        have HG1 := Lib.hid g1
        clear hp1 hsm hl1 g1
        go_wp2_with fail
        refine (HB2.out _ _ HP1.out HSM.out HG1.out).mono ?_
        rintro e w2 ⟨rfl, g2⟩
        go_wp2_with fail
        go_ret2
        rw [HA.out]
        exact ⟨_, rfl, HPO1.out.gr g2, HSM.out, HG1.out.trans g2⟩
      · have HA := Lib.hid (allR_no hi (fun h => he (hTs.2 h.2)))
        have heq : (T.toList == s.toList) = false := eqS_ne he
        clear hi hok hT hTs he HB
        go_enter Tryz.func98, Tryz.ntmps98
        go_wp2_with fail
        refine H1.out.mono ?_
        rintro e w1 ⟨v1, rfl, hp1, hsm, hl1, g1⟩
        have HP1 := Lib.hid hp1.pv
        have HSM := Lib.hid hsm
        have HG1 := Lib.hid g1
        clear hp1 hsm hl1 g1
        go_wp2_with fail
        refine (HB2.out _ _ HP1.out HSM.out HG1.out).mono ?_
        rintro e w2 ⟨rfl, g2⟩
        go_wp2_with fail
        go_ret2
        rw [HA.out]
        exact ⟨rfl, HG1.out.trans g2⟩
    · have HA := Lib.hid (allR_no hi (fun h => hok h.1))
      have hbd := buildR_bad hok
      have HB2 := Lib.hid (fun (v : Value) (w1 : World) (hv : PV w1 v L) (hm : ∀ p ∈ L, p.key.size ≤ 65536 ∧ p.val.size ≤ 65536) (g : Gr w w1) => build_any v L w1 hv (small_big hm) (HH.out.gr g))
      obtain ⟨T, hT⟩ : ∃ T, T = (buildR L).1 := ⟨_, rfl⟩
      rw [← hT] at HB2
      obtain ⟨er, her⟩ : ∃ T, T = (buildR L).2 := ⟨_, rfl⟩
      rw [← her] at HB2 hbd
      have hor := hbd.2
      clear hi hok hT her hbd
      rcases hor with rfl | rfl
      all_goals
        go_enter Tryz.func98, Tryz.ntmps98
        go_wp2_with fail
        refine H1.out.mono ?_
        rintro e w1 ⟨v1, rfl, hp1, hsm, hl1, g1⟩
        have HP1 := Lib.hid hp1.pv
        have HSM := Lib.hid hsm
        have HG1 := Lib.hid g1
        clear hp1 hsm hl1 g1
        go_wp2_with fail
        refine (HB2.out _ _ HP1.out HSM.out HG1.out).mono ?_
        rintro e w2 ⟨rfl, g2⟩
        go_wp2_with fail
        go_ret2
        rw [HA.out]
        exact ⟨rfl, HG1.out.trans g2⟩

theorem all_any (s : ByteArray) (hs : s.size ≤ maxLen) (w : World) (hH : Halves w) :
    Calls Tryz.prog 98 #[.string s] w fun e w' => RetAll (allR s.data.toList) w e w' := (all_own s hs w hH).mono fun _ _ h => h.all
end Go.Proofs.YtccjkfccklfjkaaGreatDoor
namespace Go.Proofs.YtccjkfccklfjkaaGreatDoor
open Go.RowKit

/-- What Get answers. -/
def getVal (o : Option (List PR)) (key : ByteArray) : Value :=
  match o with
  | none => .tuple #[.string ⟨#[]⟩, .bool false, .int .i64 60]
  | some L => match getR L key with
    | none => .tuple #[.string ⟨#[]⟩, .bool false, .int .i64 0]
    | some x => .tuple #[.string x, .bool true, .int .i64 0]
theorem getVal_none (key : ByteArray) : getVal none key = .tuple #[.string ⟨#[]⟩, .bool false, .int .i64 60] := rfl
theorem getVal_not {L : List PR} {key : ByteArray} (h : getR L key = none) : getVal (some L) key = .tuple #[.string ⟨#[]⟩, .bool false, .int .i64 0] := by simp [getVal, h]
theorem getVal_some {L : List PR} {key x : ByteArray} (h : getR L key = some x) : getVal (some L) key = .tuple #[.string x, .bool true, .int .i64 0] := by simp [getVal, h]

set_option maxRecDepth 100000 in
set_option maxHeartbeats 1000000 in
theorem get_any (s key : ByteArray) (hs : s.size ≤ maxLen) (w : World) (hH : Halves w) :
    Calls Tryz.prog 58 #[.string s, .string key] w fun e w' => e = .returned (getVal (allR s.data.toList) key) ∧ Gr w w' := by
  have H1 := Lib.hid (all_any s hs w hH)
  clear hH hs
  rcases hi : allR s.data.toList with _ | L
  · rw [hi] at H1
    have HG := Lib.hid (getVal_none key)
    clear hi
    go_enter Tryz.func58, Tryz.ntmps58
    go_wp2_with fail
    refine H1.out.mono ?_
    rintro e w1 ⟨rfl, g1⟩
    go_wp2_with fail
    go_ret3
    rw [HG.out]
    exact ⟨rfl, g1⟩
  · rw [hi] at H1
    have hr := allR_rises hi
    have hl := (allR_back hi).1.1
    have H2 := Lib.hid (fun (v : Value) (w1 : World) (hv : PV w1 v L) => place_any v L key w1 hv hr hl)
    have hpl := placeN_le L key
    obtain ⟨i, hie⟩ : ∃ i, i = placeN L key := ⟨_, rfl⟩
    rw [← hie] at H2 hpl
    obtain ⟨n, hn⟩ : ∃ n, n = L.length := ⟨_, rfl⟩
    have HN := Lib.hid hn
    have HIE := Lib.hid hie
    have HR := Lib.hid hr
    rw [← hn] at hpl hl
    clear hi hn hie hr
    by_cases hlt : i < n
    · have hiL : i < L.length := by rw [← HN.out]; exact hlt
      by_cases hk : L[i].key = key
      · have HGV : Hid (getVal (some L) key = .tuple #[.string L[i].val, .bool true, .int .i64 0]) := Lib.hid (getVal_some (by
          have h1 := get_found HR.out hiL
          rwa [hk] at h1))
        obtain ⟨x, hx⟩ : ∃ x, x = L[i].key := ⟨_, rfl⟩
        obtain ⟨y, hy⟩ : ∃ y, y = L[i].val := ⟨_, rfl⟩
        rw [← hy] at HGV
        have heq : (x.toList == key.toList) = true := by rw [hx, hk]; exact eqS_self key
        have HX := Lib.hid hx
        have HY := Lib.hid hy
        have hne : ((i : Int) == (n : Int)) = false := by simp; omega
        have t0 : (0 : Int) ≤ (i : Int) := by omega
        have t1 : (i : Int) < (n : Int) := by omega
        clear hx hy hk
        go_enter Tryz.func58, Tryz.ntmps58
        go_wp2_with fail
        refine H1.out.mono ?_
        rintro e w1 ⟨v1, rfl, hp1, hsm, g1⟩
        have HP1 := Lib.hid hp1
        have HG1 := Lib.hid g1
        obtain ⟨A1, c1, rfl, l1, ⟨l2, _⟩, l3⟩ := hp1
        have hc63 : c1 ≤ 9223372036854775807 := l2
        rw [← HN.out] at l1 HP1
        rw [← HN.out]
        obtain ⟨b, off, rfl, q0, q1⟩ := l3 i hiL
        rw [← HX.out] at q0
        rw [← HY.out] at q1
        have HQ0 := Lib.hid q0
        have HQ1 := Lib.hid q1
        clear hsm g1 l2 l3 q0 q1
        go_wp2_with fail
        refine (H2.out _ _ HP1.out).mono ?_
        rintro e w2 ⟨rfl, g2⟩
        have c0 := g2.cell HQ0.out
        have c1' := g2.cell HQ1.out
        have HG2 := Lib.hid (HG1.out.trans g2)
        clear g2
        go_wp2_with fail
        go_ret3
        rw [HGV.out]
        exact ⟨rfl, HG2.out⟩
      · have HGV : Hid (getVal (some L) key = .tuple #[.string ⟨#[]⟩, .bool false, .int .i64 0]) := Lib.hid (getVal_not (get_none HR.out (fun hi e => hk (by
          have h3 : ∀ (q : Nat) (hq : q < L.length), q = i → L[q].key = key → L[i].key = key := fun q hq e h => by subst e; exact h
          exact h3 _ hi HIE.out.symm e))))
        obtain ⟨x, hx⟩ : ∃ x, x = L[i].key := ⟨_, rfl⟩
        have heq : (x.toList == key.toList) = false := by rw [hx]; exact eqS_ne hk
        have HX := Lib.hid hx
        have hne : ((i : Int) == (n : Int)) = false := by simp; omega
        have t0 : (0 : Int) ≤ (i : Int) := by omega
        have t1 : (i : Int) < (n : Int) := by omega
        clear hx hk
        go_enter Tryz.func58, Tryz.ntmps58
        go_wp2_with fail
        refine H1.out.mono ?_
        rintro e w1 ⟨v1, rfl, hp1, hsm, g1⟩
        have HP1 := Lib.hid hp1
        have HG1 := Lib.hid g1
        obtain ⟨A1, c1, rfl, l1, ⟨l2, _⟩, l3⟩ := hp1
        have hc63 : c1 ≤ 9223372036854775807 := l2
        rw [← HN.out] at l1 HP1
        rw [← HN.out]
        obtain ⟨b, off, rfl, q0, -⟩ := l3 i hiL
        rw [← HX.out] at q0
        have HQ0 := Lib.hid q0
        clear hsm g1 l2 l3 q0
        go_wp2_with fail
        refine (H2.out _ _ HP1.out).mono ?_
        rintro e w2 ⟨rfl, g2⟩
        have c0 := g2.cell HQ0.out
        have HG2 := Lib.hid (HG1.out.trans g2)
        clear g2
        go_wp2_with fail
        go_ret3
        rw [HGV.out]
        exact ⟨rfl, HG2.out⟩
    · have hin : i = n := by omega
      have HGV : Hid (getVal (some L) key = .tuple #[.string ⟨#[]⟩, .bool false, .int .i64 0]) := Lib.hid (getVal_not (get_none HR.out (fun hi => by
        rw [← HIE.out, hin, HN.out] at hi
        exact absurd hi (Nat.lt_irrefl _))))
      have hne : ((i : Int) == (n : Int)) = true := by rw [hin]; simp
      have HIN := Lib.hid hin
      clear hin hlt
      go_enter Tryz.func58, Tryz.ntmps58
      go_wp2_with fail
      refine H1.out.mono ?_
      rintro e w1 ⟨v1, rfl, hp1, hsm, g1⟩
      have HP1 := Lib.hid hp1
      have HG1 := Lib.hid g1
      obtain ⟨A1, c1, rfl, l1, ⟨l2, _⟩, -⟩ := hp1
      have hc63 : c1 ≤ 9223372036854775807 := l2
      rw [← HN.out] at l1 HP1
      rw [← HN.out]
      clear hsm g1 l2
      go_wp2_with fail
      refine (H2.out _ _ HP1.out).mono ?_
      rintro e w2 ⟨rfl, g2⟩
      have HG2 := Lib.hid (HG1.out.trans g2)
      clear g2
      go_wp2_with fail
      go_ret3
      rw [HGV.out]
      exact ⟨rfl, HG2.out⟩

end Go.Proofs.YtccjkfccklfjkaaGreatDoor
namespace Go.Proofs.YtccjkfccklfjkaaGreatDoor
open Go.RowKit

theorem cv_one (w : World) (x y : ByteArray) (g : Bool) (b : Nat) (hb : b = w.heap.size) : CV (w.alloc (.cells #[.string x, .string y, .bool g] 70)) (.slice (some ⟨b, 0, none⟩) 1 1) [⟨x, y, g⟩] := by
  subst hb
  refine ⟨_, 1, rfl, Nat.le_refl _, ⟨by decide, fun h => by cases h⟩, fun j hj => ⟨w.heap.size, 0, rfl, ?_⟩⟩
  obtain rfl : j = 0 := by simpa using hj
  exact ⟨by rw [World.cell?_alloc_mark]; rfl, by rw [World.cell?_alloc_mark]; rfl, by rw [World.cell?_alloc_mark]; rfl⟩
/-- A change as a table holds it. -/
def pairC (c : CR) : PR := ⟨c.key, if c.gone then ⟨#[100]⟩ else ⟨#[112]⟩ ++ c.val⟩
end Go.Proofs.YtccjkfccklfjkaaGreatDoor
namespace Go.Proofs.YtccjkfccklfjkaaGreatDoor
open Go.RowKit

/-- The file f lies at this place. -/
def FCell (w : World) (b off : Nat) (f : F) : Prop :=
  w.cell? ⟨b, off, none⟩ = some (.string f.name) ∧ w.cell? ⟨b, off + 1, none⟩ = some (.string f.kept) ∧ w.cell? ⟨b, off + 2, none⟩ = some (.string f.loose)
/-- The slice value v reads as the files L. -/
def FV (w : World) (v : Value) (L : List F) : Prop :=
  ∃ A c, v = .slice A L.length c ∧ L.length ≤ c ∧ (c ≤ maxLen ∧ (A = Option.none → c = 0)) ∧ ∀ j (hj : j < L.length), ∃ b off, A = some ⟨b, off, none⟩ ∧ FCell w b (off + j * 3) L[j]
theorem FCell.gr {w w' : World} {b off : Nat} {f : F} (h : FCell w b off f) (g : Gr w w') : FCell w' b off f := ⟨g.cell h.1, g.cell h.2.1, g.cell h.2.2⟩
theorem FV.gr {w w' : World} {v : Value} {L : List F} (h : FV w v L) (g : Gr w w') : FV w' v L := by
  obtain ⟨A, c, hv, h1, h2, h3⟩ := h
  refine ⟨A, c, hv, h1, h2, fun j hj => ?_⟩
  obtain ⟨b, off, ha, hc⟩ := h3 j hj
  exact ⟨b, off, ha, hc.gr g⟩
theorem FV.nil (w : World) : FV w (.slice none 0 0) [] := ⟨none, 0, rfl, Nat.le_refl _, ⟨Nat.zero_le _, fun _ => rfl⟩, fun j hj => absurd hj (by simp)⟩

def findI (L : List F) (nm : ByteArray) : Int := if findF L nm < L.length then (findF L nm : Int) else -1
theorem findI_yes {L : List F} {nm : ByteArray} (h : findF L nm < L.length) : findI L nm = (findF L nm : Int) := if_pos h
theorem findI_no {L : List F} {nm : ByteArray} (h : ¬ findF L nm < L.length) : findI L nm = -1 := if_neg h
theorem findI_at {L : List F} {nm : ByteArray} {k : Nat} (hk : k < L.length) (h1 : L[k].name = nm) (h2 : ∀ j (_ : j < k), L[j].name ≠ nm) : findI L nm = (k : Int) := by
  have := findF_eq hk h1 h2
  rw [findI_yes (by rw [this]; exact hk), this]
theorem findI_none {L : List F} {nm : ByteArray} (h : ∀ j (_ : j < L.length), L[j].name ≠ nm) : findI L nm = -1 := by
  have := findF_none h
  rw [findI_no (by rw [this]; omega)]

end Go.Proofs.YtccjkfccklfjkaaGreatDoor
namespace Go.Proofs.YtccjkfccklfjkaaGreatDoor
open Go.RowKit

theorem sv_three (w : World) (s t u : ByteArray) (b : Nat) (hb : b = w.heap.size) : SV (w.alloc (.cells #[.string s, .string t, .string u] 9)) (.slice (some ⟨b, 0, none⟩) 3 3) [s, t, u] := by
  subst hb
  refine ⟨_, 3, rfl, Nat.le_refl _, ⟨by decide, fun h => by cases h⟩, fun j hj => ⟨w.heap.size, 0, rfl, ?_⟩⟩
  match j, hj with
  | 0, _ => rw [World.cell?_alloc_mark]; rfl
  | 1, _ => rw [World.cell?_alloc_mark]; rfl
  | 2, _ => rw [World.cell?_alloc_mark]; rfl
def kindC (g : Bool) : ByteArray := if g then ⟨#[100]⟩ else ⟨#[112]⟩
/-- The fields of a batch's record. -/
def recF (L : List CR) : List ByteArray := L.flatMap fun c => [kindC c.gone, c.key, c.val]
theorem recF_len (L : List CR) : (recF L).length = 3 * L.length := by
  induction L with
  | nil => rfl
  | cons c L ih =>
    show ([kindC c.gone, c.key, c.val] ++ recF L).length = _
    rw [List.length_append, ih, show (c :: L).length = L.length + 1 from rfl]
    show 3 + _ = _
    omega
theorem recF_succ {L : List CR} {j : Nat} (h : j < L.length) : recF (L.take (j + 1)) = recF (L.take j) ++ [kindC L[j].gone, L[j].key, L[j].val] := by
  unfold recF
  rw [List.take_succ_eq_append_getElem h, List.flatMap_append]
  simp
abbrev RC2 (b o : Nat) (x y : ByteArray) (w0 w' : World) : Prop := w'.cell? ⟨b, o, none⟩ = some (.string x) ∧ w'.cell? ⟨b, o + 1, none⟩ = some (.string y) ∧ Gr w0 w'
theorem RC2.gr {b o : Nat} {x y : ByteArray} {w0 w1 w2 : World} (h : RC2 b o x y w0 w1) (g : Gr w1 w2) : RC2 b o x y w0 w2 := ⟨g.cell h.1, g.cell h.2.1, h.2.2.trans g⟩
/-- May it be a table's name? -/
def namedB (s : ByteArray) : Bool := decide (s.size = 8) && (decide (s.data.toList.head? = some 116) && nameOk s)
end Go.Proofs.YtccjkfccklfjkaaGreatDoor
