/- Plain mathematics of asking a table: one key, the keys from one on and below another one. Walks: All, Clone, Get, Range, the program's. Walks: Get, Range, the program's. Walks: living changes, changes as pairs, the document's. Disks as they are read: a slice of files; the document's find and Bytes. Walks: the record of a batch, a table's name, the document's. Walks: comparing two disks. Rows of structs, and rows of files that the call owns. Walks: a copied list of files. -/
import Derived.Test.YtlnhbndghnkfmaaGreatDoorZm10
import Derived.Lib.SliceRun
import Derived.Test.YtlnhbndghnkfmaaGreatDoorZm05
import Derived.BigFrame
import Derived.Test.YtlnhbndghnkfmaaGreatDoorZm01
import Derived.Test.YtlnhbndghnkfmaaGreatDoorZm03
import Derived.BigQuiet
import Derived.Deep.QuietTactic
import Derived.WalkSpells
import Derived.WalkLawsBesides
import Derived.Outline
import Derived.ChangeKeysEq
import Derived.Laws.StructEq
import Derived.Test.YtlnhbndghnkfmaaGreatDoorZm04
import Derived.Laws.AppendOwnNone
import Derived.Maps.AppendAt
import Derived.Deep.AppendLies
namespace Go.Proofs.YtlnhbndghnkfmaaGreatDoor
open Go.RowKit

theorem rises_tail {p : PR} {L : List PR} (h : rises (p :: L)) : rises L := fun j hj => h (j + 1) (by simp only [List.length_cons]; omega)
theorem rises_head {p q : PR} {L : List PR} (h : rises (p :: L)) (hq : q ∈ L) : lessS p.key q.key = true := by
  obtain ⟨j, hj, rfl⟩ := List.mem_iff_getElem.1 hq
  exact rises_at h (i := 0) (j := j + 1) (by omega) (by simp only [List.length_cons]; omega)
/-- The value of a key. -/
def getR (L : List PR) (key : ByteArray) : Option ByteArray := (L.find? fun p => eqS p.key key).map PR.val
theorem place_at {L : List PR} (h : rises L) {j : Nat} (hj : j < L.length) : placeN L L[j].key = j := by
  unfold placeN
  have e : L = L.take j ++ L.drop j := (List.take_append_drop j L).symm
  have h1 : (L.take j).countP (fun p => lessS p.key L[j].key) = j := by
    rw [List.countP_eq_length.2]
    · rw [List.length_take]; omega
    · intro p hp
      obtain ⟨i, hi, rfl⟩ := List.mem_iff_getElem.1 hp
      rw [List.length_take] at hi
      rw [List.getElem_take]
      exact rises_at h (by omega) hj
  have h2 : (L.drop j).countP (fun p => lessS p.key L[j].key) = 0 := by
    rw [List.countP_eq_zero]
    intro p hp hl
    obtain ⟨i, hi, rfl⟩ := List.mem_iff_getElem.1 hp
    rw [List.length_drop] at hi
    rw [List.getElem_drop] at hl
    rcases Nat.eq_zero_or_pos i with e | e
    · subst e
      rw [show L[j + 0] = L[j] from rfl, lessS_irrefl] at hl
      cases hl
    · have := rises_at h (i := j) (j := j + i) (by omega) (by omega)
      rw [lessS_asymm hl] at this
      cases this
  have h3 := List.countP_append (p := fun p => lessS p.key L[j].key) (l₁ := L.take j) (l₂ := L.drop j)
  rw [← e, h1, h2] at h3
  exact h3
theorem get_found {L : List PR} (h : rises L) {j : Nat} (hj : j < L.length) : getR L L[j].key = some L[j].val := by
  unfold getR
  cases hf : L.find? (fun p => eqS p.key L[j].key) with
  | none =>
    have := List.find?_eq_none.1 hf L[j] (List.getElem_mem hj)
    rw [eqS_self] at this
    exact absurd rfl this
  | some p =>
    have h1 := List.find?_some hf
    have h2 := List.mem_of_find?_eq_some hf
    obtain ⟨i, hi, rfl⟩ := List.mem_iff_getElem.1 h2
    have h3 : L[i].key = L[j].key := eqS_iff.1 h1
    have h4 := place_at h hi
    rw [h3, place_at h hj] at h4
    subst h4
    rfl
theorem get_none {L : List PR} (h : rises L) {key : ByteArray} (hn : ∀ hi : placeN L key < L.length, L[placeN L key].key ≠ key) : getR L key = none := by
  unfold getR
  rw [Option.map_eq_none_iff, List.find?_eq_none]
  intro p hp he
  obtain ⟨i, hi, rfl⟩ := List.mem_iff_getElem.1 hp
  have h1 : L[i].key = key := eqS_iff.1 he
  have h2 := place_at h hi
  rw [h1] at h2
  refine hn (by omega) ?_
  have h3 : ∀ (k : Nat) (hk : k < L.length), k = i → L[k].key = key := fun k hk e => by subst e; exact h1
  exact h3 _ _ h2
end Go.Proofs.YtlnhbndghnkfmaaGreatDoor
namespace Go.Proofs.YtlnhbndghnkfmaaGreatDoor
open Go.RowKit

/-- What All answers. -/
def RetAll (o : Option (List PR)) (w : World) (e : Ending) (w' : World) : Prop :=
  match o with
  | none => e = .returned (.tuple #[.slice none 0 0, .int .i64 60]) ∧ Gr w w'
  | some L => ∃ v, e = .returned (.tuple #[v, .int .i64 0]) ∧ PV w' v L ∧ (∀ p ∈ L, p.key.size ≤ 65536 ∧ p.val.size ≤ 65536) ∧ Gr w w'
/-- .. the pairs in new memory. -/
def RetAllO (o : Option (List PR)) (w : World) (e : Ending) (w' : World) : Prop :=
  match o with
  | none => e = .returned (.tuple #[.slice none 0 0, .int .i64 60]) ∧ Gr w w'
  | some L => ∃ v, e = .returned (.tuple #[v, .int .i64 0]) ∧ PO w' w.heap.size v L ∧ (∀ p ∈ L, p.key.size ≤ 65536 ∧ p.val.size ≤ 65536) ∧ Gr w w'
theorem RetAllO.all {o : Option (List PR)} {w w' : World} {e : Ending} (h : RetAllO o w e w') : RetAll o w e w' := by
  cases o with
  | none => exact h
  | some L =>
    obtain ⟨v, h1, h2, h3⟩ := h
    exact ⟨v, h1, h2.pv, h3⟩
theorem small_big {L : List PR} (h : ∀ p ∈ L, p.key.size ≤ 65536 ∧ p.val.size ≤ 65536) : ∀ p ∈ L, p.key.size ≤ 281474976710656 ∧ p.val.size ≤ 281474976710656 := fun p hp => by have := h p hp; omega
theorem bs_eq {l : List UInt8} {s : ByteArray} : bs l = s ↔ l = s.data.toList := by
  constructor
  · rintro rfl
    rfl
  · rintro rfl
    exact bs_data s
set_option maxRecDepth 100000 in
set_option maxHeartbeats 1000000 in
theorem all_own (s : ByteArray) (hs : s.size ≤ maxLen) (w : World) (hH : Halves w) :
    Calls Tryz.prog 98 #[.string s] w fun e w' => RetAllO (allR s.data.toList) w e w' := by
  have H1 := Lib.hid (inBlocks_any s hs w hH)
  have HH := Lib.hid hH
  clear hH hs
  rcases hi : inB s.data.toList with _ | L
  · have HA := Lib.hid (allR_none hi)
    rw [hi] at H1
    clear hi
    go_enter Tryz.func98, Tryz.ntmps98
    go_wp2_with fail
    refine H1.out.mono ?_
    rintro e w1 ⟨rfl, g1⟩
    go_wp2_with fail
    go_ret2
    rw [HA.out]
    exact ⟨rfl, g1⟩
  · rw [hi] at H1
    by_cases hok : okTab L
    · have HB := Lib.hid (buildR_ok hok)
      have HB2 := Lib.hid (fun (v : Value) (w1 : World) (hv : PV w1 v L) (hm : ∀ p ∈ L, p.key.size ≤ 65536 ∧ p.val.size ≤ 65536) (g : Gr w w1) => by
        have := build_any v L w1 hv (small_big hm) (HH.out.gr g)
        rw [HB.out] at this
        exact this)
      obtain ⟨T, hT⟩ : ∃ T, T = bs (tabL L) := ⟨_, rfl⟩
      rw [← hT] at HB2
      have hTs : T = s ↔ tabL L = s.data.toList := by rw [hT]; exact bs_eq
      by_cases he : T = s
      · have HA := Lib.hid (allR_yes hi ⟨hok, hTs.1 he⟩)
        have heq : (T.toList == s.toList) = true := eqS_iff.2 he
        clear hi hok hT hTs he HB
        go_enter Tryz.func98, Tryz.ntmps98
        go_wp2_with fail
        refine H1.out.mono ?_
        rintro e w1 ⟨v1, rfl, hp1, hsm, hl1, g1⟩
        have HPO1 := Lib.hid hp1
        have HP1 := Lib.hid hp1.pv
        have HSM := Lib.hid hsm
        have HG1 := Lib.hid g1
        clear hp1 hsm hl1 g1
        go_wp2_with fail
        refine (HB2.out _ _ HP1.out HSM.out HG1.out).mono ?_
        rintro e w2 ⟨rfl, g2⟩
        go_wp2_with fail
        go_ret2
        rw [HA.out]
        exact ⟨_, rfl, HPO1.out.gr g2, HSM.out, HG1.out.trans g2⟩
      · have HA := Lib.hid (allR_no hi (fun h => he (hTs.2 h.2)))
        have heq : (T.toList == s.toList) = false := eqS_ne he
        clear hi hok hT hTs he HB
        go_enter Tryz.func98, Tryz.ntmps98
        go_wp2_with fail
        refine H1.out.mono ?_
        rintro e w1 ⟨v1, rfl, hp1, hsm, hl1, g1⟩
        have HP1 := Lib.hid hp1.pv
        have HSM := Lib.hid hsm
        have HG1 := Lib.hid g1
        clear hp1 hsm hl1 g1
        go_wp2_with fail
        refine (HB2.out _ _ HP1.out HSM.out HG1.out).mono ?_
        rintro e w2 ⟨rfl, g2⟩
        go_wp2_with fail
        go_ret2
        rw [HA.out]
        exact ⟨rfl, HG1.out.trans g2⟩
    · have HA := Lib.hid (allR_no hi (fun h => hok h.1))
      have hbd := buildR_bad hok
      have HB2 := Lib.hid (fun (v : Value) (w1 : World) (hv : PV w1 v L) (hm : ∀ p ∈ L, p.key.size ≤ 65536 ∧ p.val.size ≤ 65536) (g : Gr w w1) => build_any v L w1 hv (small_big hm) (HH.out.gr g))
      obtain ⟨T, hT⟩ : ∃ T, T = (buildR L).1 := ⟨_, rfl⟩
      rw [← hT] at HB2
      obtain ⟨er, her⟩ : ∃ T, T = (buildR L).2 := ⟨_, rfl⟩
      rw [← her] at HB2 hbd
      have hor := hbd.2
      clear hi hok hT her hbd
      rcases hor with rfl | rfl
      all_goals
        go_enter Tryz.func98, Tryz.ntmps98
        go_wp2_with fail
        refine H1.out.mono ?_
        rintro e w1 ⟨v1, rfl, hp1, hsm, hl1, g1⟩
        have HP1 := Lib.hid hp1.pv
        have HSM := Lib.hid hsm
        have HG1 := Lib.hid g1
        clear hp1 hsm hl1 g1
        go_wp2_with fail
        refine (HB2.out _ _ HP1.out HSM.out HG1.out).mono ?_
        rintro e w2 ⟨rfl, g2⟩
        go_wp2_with fail
        go_ret2
        rw [HA.out]
        exact ⟨rfl, HG1.out.trans g2⟩

theorem all_any (s : ByteArray) (hs : s.size ≤ maxLen) (w : World) (hH : Halves w) :
    Calls Tryz.prog 98 #[.string s] w fun e w' => RetAll (allR s.data.toList) w e w' := (all_own s hs w hH).mono fun _ _ h => h.all
end Go.Proofs.YtlnhbndghnkfmaaGreatDoor
namespace Go.Proofs.YtlnhbndghnkfmaaGreatDoor
open Go.RowKit

/-- What Get answers. -/
def getVal (o : Option (List PR)) (key : ByteArray) : Value :=
  match o with
  | none => .tuple #[.string ⟨#[]⟩, .bool false, .int .i64 60]
  | some L => match getR L key with
    | none => .tuple #[.string ⟨#[]⟩, .bool false, .int .i64 0]
    | some x => .tuple #[.string x, .bool true, .int .i64 0]
theorem getVal_none (key : ByteArray) : getVal none key = .tuple #[.string ⟨#[]⟩, .bool false, .int .i64 60] := rfl
theorem getVal_not {L : List PR} {key : ByteArray} (h : getR L key = none) : getVal (some L) key = .tuple #[.string ⟨#[]⟩, .bool false, .int .i64 0] := by simp [getVal, h]
theorem getVal_some {L : List PR} {key x : ByteArray} (h : getR L key = some x) : getVal (some L) key = .tuple #[.string x, .bool true, .int .i64 0] := by simp [getVal, h]

set_option maxRecDepth 100000 in
set_option maxHeartbeats 1000000 in
theorem get_any (s key : ByteArray) (hs : s.size ≤ maxLen) (w : World) (hH : Halves w) :
    Calls Tryz.prog 58 #[.string s, .string key] w fun e w' => e = .returned (getVal (allR s.data.toList) key) ∧ Gr w w' := by
  have H1 := Lib.hid (all_any s hs w hH)
  clear hH hs
  rcases hi : allR s.data.toList with _ | L
  · rw [hi] at H1
    have HG := Lib.hid (getVal_none key)
    clear hi
    go_enter Tryz.func58, Tryz.ntmps58
    go_wp2_with fail
    refine H1.out.mono ?_
    rintro e w1 ⟨rfl, g1⟩
    go_wp2_with fail
    go_ret3
    rw [HG.out]
    exact ⟨rfl, g1⟩
  · rw [hi] at H1
    have hr := allR_rises hi
    have hl := (allR_back hi).1.1
    have H2 := Lib.hid (fun (v : Value) (w1 : World) (hv : PV w1 v L) => place_any v L key w1 hv hr hl)
    have hpl := placeN_le L key
    obtain ⟨i, hie⟩ : ∃ i, i = placeN L key := ⟨_, rfl⟩
    rw [← hie] at H2 hpl
    obtain ⟨n, hn⟩ : ∃ n, n = L.length := ⟨_, rfl⟩
    have HN := Lib.hid hn
    have HIE := Lib.hid hie
    have HR := Lib.hid hr
    rw [← hn] at hpl hl
    clear hi hn hie hr
    by_cases hlt : i < n
    · have hiL : i < L.length := by rw [← HN.out]; exact hlt
      by_cases hk : L[i].key = key
      · have HGV : Hid (getVal (some L) key = .tuple #[.string L[i].val, .bool true, .int .i64 0]) := Lib.hid (getVal_some (by
          have h1 := get_found HR.out hiL
          rwa [hk] at h1))
        obtain ⟨x, hx⟩ : ∃ x, x = L[i].key := ⟨_, rfl⟩
        obtain ⟨y, hy⟩ : ∃ y, y = L[i].val := ⟨_, rfl⟩
        rw [← hy] at HGV
        have heq : (x.toList == key.toList) = true := by rw [hx, hk]; exact eqS_self key
        have HX := Lib.hid hx
        have HY := Lib.hid hy
        have hne : ((i : Int) == (n : Int)) = false := by simp; omega
        have t0 : (0 : Int) ≤ (i : Int) := by omega
        have t1 : (i : Int) < (n : Int) := by omega
        clear hx hy hk
        go_enter Tryz.func58, Tryz.ntmps58
        go_wp2_with fail
        refine H1.out.mono ?_
        rintro e w1 ⟨v1, rfl, hp1, hsm, g1⟩
        have HP1 := Lib.hid hp1
        have HG1 := Lib.hid g1
        obtain ⟨A1, c1, rfl, l1, ⟨l2, _⟩, l3⟩ := hp1
        have hc63 : c1 ≤ 9223372036854775807 := l2
        rw [← HN.out] at l1 HP1
        rw [← HN.out]
        obtain ⟨b, off, rfl, q0, q1⟩ := l3 i hiL
        rw [← HX.out] at q0
        rw [← HY.out] at q1
        have HQ0 := Lib.hid q0
        have HQ1 := Lib.hid q1
        clear hsm g1 l2 l3 q0 q1
        go_wp2_with fail
        refine (H2.out _ _ HP1.out).mono ?_
        rintro e w2 ⟨rfl, g2⟩
        have c0 := g2.cell HQ0.out
        have c1' := g2.cell HQ1.out
        have HG2 := Lib.hid (HG1.out.trans g2)
        clear g2
        go_wp2_with fail
        go_ret3
        rw [HGV.out]
        exact ⟨rfl, HG2.out⟩
      · have HGV : Hid (getVal (some L) key = .tuple #[.string ⟨#[]⟩, .bool false, .int .i64 0]) := Lib.hid (getVal_not (get_none HR.out (fun hi e => hk (by
          have h3 : ∀ (q : Nat) (hq : q < L.length), q = i → L[q].key = key → L[i].key = key := fun q hq e h => by subst e; exact h
          exact h3 _ hi HIE.out.symm e))))
        obtain ⟨x, hx⟩ : ∃ x, x = L[i].key := ⟨_, rfl⟩
        have heq : (x.toList == key.toList) = false := by rw [hx]; exact eqS_ne hk
        have HX := Lib.hid hx
        have hne : ((i : Int) == (n : Int)) = false := by simp; omega
        have t0 : (0 : Int) ≤ (i : Int) := by omega
        have t1 : (i : Int) < (n : Int) := by omega
        clear hx hk
        go_enter Tryz.func58, Tryz.ntmps58
        go_wp2_with fail
        refine H1.out.mono ?_
        rintro e w1 ⟨v1, rfl, hp1, hsm, g1⟩
        have HP1 := Lib.hid hp1
        have HG1 := Lib.hid g1
        obtain ⟨A1, c1, rfl, l1, ⟨l2, _⟩, l3⟩ := hp1
        have hc63 : c1 ≤ 9223372036854775807 := l2
        rw [← HN.out] at l1 HP1
        rw [← HN.out]
        obtain ⟨b, off, rfl, q0, -⟩ := l3 i hiL
        rw [← HX.out] at q0
        have HQ0 := Lib.hid q0
        clear hsm g1 l2 l3 q0
        go_wp2_with fail
        refine (H2.out _ _ HP1.out).mono ?_
        rintro e w2 ⟨rfl, g2⟩
        have c0 := g2.cell HQ0.out
        have HG2 := Lib.hid (HG1.out.trans g2)
        clear g2
        go_wp2_with fail
        go_ret3
        rw [HGV.out]
        exact ⟨rfl, HG2.out⟩
    · have hin : i = n := by omega
      have HGV : Hid (getVal (some L) key = .tuple #[.string ⟨#[]⟩, .bool false, .int .i64 0]) := Lib.hid (getVal_not (get_none HR.out (fun hi => by
        rw [← HIE.out, hin, HN.out] at hi
        exact absurd hi (Nat.lt_irrefl _))))
      have hne : ((i : Int) == (n : Int)) = true := by rw [hin]; simp
      have HIN := Lib.hid hin
      clear hin hlt
      go_enter Tryz.func58, Tryz.ntmps58
      go_wp2_with fail
      refine H1.out.mono ?_
      rintro e w1 ⟨v1, rfl, hp1, hsm, g1⟩
      have HP1 := Lib.hid hp1
      have HG1 := Lib.hid g1
      obtain ⟨A1, c1, rfl, l1, ⟨l2, _⟩, -⟩ := hp1
      have hc63 : c1 ≤ 9223372036854775807 := l2
      rw [← HN.out] at l1 HP1
      rw [← HN.out]
      clear hsm g1 l2
      go_wp2_with fail
      refine (H2.out _ _ HP1.out).mono ?_
      rintro e w2 ⟨rfl, g2⟩
      have HG2 := Lib.hid (HG1.out.trans g2)
      clear g2
      go_wp2_with fail
      go_ret3
      rw [HGV.out]
      exact ⟨rfl, HG2.out⟩

end Go.Proofs.YtlnhbndghnkfmaaGreatDoor
namespace Go.Proofs.YtlnhbndghnkfmaaGreatDoor
open Go.RowKit

theorem cv_one (w : World) (x y : ByteArray) (g : Bool) (b : Nat) (hb : b = w.heap.size) : CV (w.alloc (.cells #[.string x, .string y, .bool g] 70)) (.slice (some ⟨b, 0, none⟩) 1 1) [⟨x, y, g⟩] := by
  subst hb
  refine ⟨_, 1, rfl, Nat.le_refl _, ⟨by decide, fun h => by cases h⟩, fun j hj => ⟨w.heap.size, 0, rfl, ?_⟩⟩
  obtain rfl : j = 0 := by simpa using hj
  exact ⟨by rw [World.cell?_alloc_mark]; rfl, by rw [World.cell?_alloc_mark]; rfl, by rw [World.cell?_alloc_mark]; rfl⟩
/-- A change as a table holds it. -/
def pairC (c : CR) : PR := ⟨c.key, if c.gone then ⟨#[100]⟩ else ⟨#[112]⟩ ++ c.val⟩
end Go.Proofs.YtlnhbndghnkfmaaGreatDoor
namespace Go.Proofs.YtlnhbndghnkfmaaGreatDoor
open Go.RowKit

/-- The file f lies at this place. -/
def FCell (w : World) (b off : Nat) (f : F) : Prop :=
  w.cell? ⟨b, off, none⟩ = some (.string f.name) ∧ w.cell? ⟨b, off + 1, none⟩ = some (.string f.kept) ∧ w.cell? ⟨b, off + 2, none⟩ = some (.string f.loose)
/-- The slice value v reads as the files L. -/
def FV (w : World) (v : Value) (L : List F) : Prop :=
  ∃ A c, v = .slice A L.length c ∧ L.length ≤ c ∧ (c ≤ maxLen ∧ (A = Option.none → c = 0)) ∧ ∀ j (hj : j < L.length), ∃ b off, A = some ⟨b, off, none⟩ ∧ FCell w b (off + j * 3) L[j]
theorem FCell.gr {w w' : World} {b off : Nat} {f : F} (h : FCell w b off f) (g : Gr w w') : FCell w' b off f := ⟨g.cell h.1, g.cell h.2.1, g.cell h.2.2⟩
theorem FV.gr {w w' : World} {v : Value} {L : List F} (h : FV w v L) (g : Gr w w') : FV w' v L := by
  obtain ⟨A, c, hv, h1, h2, h3⟩ := h
  refine ⟨A, c, hv, h1, h2, fun j hj => ?_⟩
  obtain ⟨b, off, ha, hc⟩ := h3 j hj
  exact ⟨b, off, ha, hc.gr g⟩
theorem FV.nil (w : World) : FV w (.slice none 0 0) [] := ⟨none, 0, rfl, Nat.le_refl _, ⟨Nat.zero_le _, fun _ => rfl⟩, fun j hj => absurd hj (by simp)⟩

def findI (L : List F) (nm : ByteArray) : Int := if findF L nm < L.length then (findF L nm : Int) else -1
theorem findI_yes {L : List F} {nm : ByteArray} (h : findF L nm < L.length) : findI L nm = (findF L nm : Int) := if_pos h
theorem findI_no {L : List F} {nm : ByteArray} (h : ¬ findF L nm < L.length) : findI L nm = -1 := if_neg h
theorem findI_at {L : List F} {nm : ByteArray} {k : Nat} (hk : k < L.length) (h1 : L[k].name = nm) (h2 : ∀ j (_ : j < k), L[j].name ≠ nm) : findI L nm = (k : Int) := by
  have := findF_eq hk h1 h2
  rw [findI_yes (by rw [this]; exact hk), this]
theorem findI_none {L : List F} {nm : ByteArray} (h : ∀ j (_ : j < L.length), L[j].name ≠ nm) : findI L nm = -1 := by
  have := findF_none h
  rw [findI_no (by rw [this]; omega)]

end Go.Proofs.YtlnhbndghnkfmaaGreatDoor
namespace Go.Proofs.YtlnhbndghnkfmaaGreatDoor
open Go.RowKit

theorem sv_three (w : World) (s t u : ByteArray) (b : Nat) (hb : b = w.heap.size) : SV (w.alloc (.cells #[.string s, .string t, .string u] 9)) (.slice (some ⟨b, 0, none⟩) 3 3) [s, t, u] := by
  subst hb
  refine ⟨_, 3, rfl, Nat.le_refl _, ⟨by decide, fun h => by cases h⟩, fun j hj => ⟨w.heap.size, 0, rfl, ?_⟩⟩
  match j, hj with
  | 0, _ => rw [World.cell?_alloc_mark]; rfl
  | 1, _ => rw [World.cell?_alloc_mark]; rfl
  | 2, _ => rw [World.cell?_alloc_mark]; rfl
def kindC (g : Bool) : ByteArray := if g then ⟨#[100]⟩ else ⟨#[112]⟩
/-- The fields of a batch's record. -/
def recF (L : List CR) : List ByteArray := L.flatMap fun c => [kindC c.gone, c.key, c.val]
theorem recF_len (L : List CR) : (recF L).length = 3 * L.length := by
  induction L with
  | nil => rfl
  | cons c L ih =>
    show ([kindC c.gone, c.key, c.val] ++ recF L).length = _
    rw [List.length_append, ih, show (c :: L).length = L.length + 1 from rfl]
    show 3 + _ = _
    omega
theorem recF_succ {L : List CR} {j : Nat} (h : j < L.length) : recF (L.take (j + 1)) = recF (L.take j) ++ [kindC L[j].gone, L[j].key, L[j].val] := by
  unfold recF
  rw [List.take_succ_eq_append_getElem h, List.flatMap_append]
  simp
abbrev RC2 (b o : Nat) (x y : ByteArray) (w0 w' : World) : Prop := w'.cell? ⟨b, o, none⟩ = some (.string x) ∧ w'.cell? ⟨b, o + 1, none⟩ = some (.string y) ∧ Gr w0 w'
theorem RC2.gr {b o : Nat} {x y : ByteArray} {w0 w1 w2 : World} (h : RC2 b o x y w0 w1) (g : Gr w1 w2) : RC2 b o x y w0 w2 := ⟨g.cell h.1, g.cell h.2.1, h.2.2.trans g⟩
/-- May it be a table's name? -/
def namedB (s : ByteArray) : Bool := decide (s.size = 8) && (decide (s.data.toList.head? = some 116) && nameOk s)
end Go.Proofs.YtlnhbndghnkfmaaGreatDoor
namespace Go.Proofs.YtlnhbndghnkfmaaGreatDoor
open Go.RowKit

def fv (f : F) : Array Value := #[.string f.name, .string f.kept, .string f.loose]
end Go.Proofs.YtlnhbndghnkfmaaGreatDoor
namespace Go.Proofs.YtlnhbndghnkfmaaGreatDoor
open Go.RowKit

def fcell (f : F) : List Value := [.string f.name, .string f.kept, .string f.loose]
def fcells (L : List F) : List Value := L.flatMap fcell
theorem fcell_len (f : F) : (fcell f).length = 3 := rfl
theorem fcells_len (L : List F) : (fcells L).length = L.length * 3 := rows_len fcell 3 fcell_len L
theorem fcells_one (L : List F) : ∀ u ∈ fcells L, u.oneCell' = true := by
  intro u hu
  obtain ⟨f, _, hf⟩ := List.mem_flatMap.1 hu
  unfold fcell at hf
  simp only [List.mem_cons, List.not_mem_nil, or_false] at hf
  rcases hf with rfl | rfl | rfl <;> rfl
/-- The cells of a slice of files, as append asks for them. -/
theorem FV.news {w : World} {a : Addr} {n c : Nat} {L : List F} (h : FV w (.slice (some a) n c) L) : n = L.length ∧ ∀ j u, (fcells L)[j]? = some u → w.cell? (a.add j) = some u := by
  obtain ⟨A, c', hv, h1, h2, h3⟩ := h
  injection hv with e1 e2 e3
  subst e1 e2 e3
  refine ⟨rfl, fun j u hu => ?_⟩
  obtain ⟨q, r, hq, hr, rfl, hg⟩ := rows_of fcell 3 fcell_len (by decide) L j u hu
  obtain ⟨b, off, hh, c0, c1, c2⟩ := h3 q hq
  injection hh with hh
  subst hh
  rw [Go.WideShapes.add_plain]
  match r, hr with
  | 0, _ =>
    have : (Value.string L[q].name) = u := by simpa [fcell] using hg
    rw [← this, show off + (q * 3 + 0) = off + q * 3 by omega]
    exact c0
  | 1, _ =>
    have : (Value.string L[q].kept) = u := by simpa [fcell] using hg
    rw [← this, show off + (q * 3 + 1) = off + q * 3 + 1 by omega]
    exact c1
  | 2, _ =>
    have : (Value.string L[q].loose) = u := by simpa [fcell] using hg
    rw [← this, show off + (q * 3 + 2) = off + q * 3 + 2 by omega]
    exact c2

/-- The call owns the slice v from block B on: it reads as the files L. -/
def FO (w : World) (B : Nat) (v : Value) (L : List F) : Prop := w.ownsRow B 63 3 v L.length (fcells L)
theorem FO.gr {w w' : World} {B : Nat} {v : Value} {L : List F} (h : FO w B v L) (g : Gr w w') : FO w' B v L := own_gr h g
theorem FO.le {w : World} {B B' : Nat} {v : Value} {L : List F} (h : FO w B v L) (hb : B' ≤ B) : FO w B' v L := own_le h hb
theorem FO.nil (w : World) (B : Nat) : FO w B (.slice none 0 0) [] := World.ownsRow_nil w B _ _
/-- The places of a row that is owned. -/
theorem FO.at_ {w : World} {B g n cap : Nat} {L : List F} (h : FO w B (.slice (some ⟨g, 0, none⟩) n cap) L) {j : Nat} (hj : j < L.length) : FCell w g (j * 3) L[j] := by
  have hn : n = L.length := by
    rcases h.2 with ⟨hh, _⟩ | ⟨g', cap', cur, hh, _⟩
    · cases hh
    · injection hh
  subst hn
  have hj3 : j * 3 + 2 < L.length * 3 := by omega
  refine ⟨?_, ?_, ?_⟩
  · rw [h.cellAt (j * 3) (by omega)]; exact rows_at fcell 3 fcell_len L j 0 hj (by decide)
  · rw [h.cellAt (j * 3 + 1) (by omega)]; exact rows_at fcell 3 fcell_len L j 1 hj (by decide)
  · rw [h.cellAt (j * 3 + 2) (by omega)]; exact rows_at fcell 3 fcell_len L j 2 hj (by decide)
theorem FO.fv {w : World} {B : Nat} {v : Value} {L : List F} (h : FO w B v L) : FV w v L := by
  have h' := h
  rcases h.2 with ⟨rfl, h0⟩ | ⟨g, cap, cur, rfl, hb, hg, hn, hm, hc, ht⟩
  · have : L = [] := List.length_eq_zero_iff.1 h0
    subst this
    exact FV.nil w
  · refine ⟨_, cap, rfl, hn, ⟨hm, fun h => by cases h⟩, fun j hj => ⟨g, 0, rfl, ?_⟩⟩
    rw [Nat.zero_add]
    exact FO.at_ h' hj
theorem FO.form {w : World} {B : Nat} {v : Value} {L : List F} (h : FO w B v L) : ∃ A c, v = .slice A L.length c ∧ L.length ≤ c ∧ c ≤ 9223372036854775807 := own_form h
theorem infoFile : (Tryz.prog.info? 63).map (fun i => (i.zero, i.size, i.bytes)) = some (some (.agg #[.string ⟨#[]⟩, .string ⟨#[]⟩, .string ⟨#[]⟩]), 3, 48) := by kernel_rfl
end Go.Proofs.YtlnhbndghnkfmaaGreatDoor
namespace Go.Proofs.YtlnhbndghnkfmaaGreatDoor
open Go.RowKit

set_option maxRecDepth 100000 in
/-- append([]File{}, l...): new memory that reads as l. -/
theorem wpList_copy_fv {W : World} {ops : Array Oper} {rest : List Oper} {o : Oper} {a : Act} {Q : Exit → Act → World → Prop} (hgd : o.guard = none) (s x : Operand)
    (ho : o.op = .call { callee := .builtin .append, args := #[s, x], argTypes := #[22, 22] })
    (H : Nat) (hH : W.heap.size = H) (hs : a.eval s = .slice (some ⟨H, 0, none⟩) 0 0) (v : Value) (L : List F) (hx : a.eval x = v) (hv : FV W v L) (hlen : L.length * 48 ≤ 140737488355328)
    (h : ∀ A' c' w', FO w' W.heap.size (.slice A' L.length c') L → Gr W w' → wpList Tryz.prog ops Q rest (a.put o.dst (.slice A' L.length c')) w') :
    wpList Tryz.prog ops Q (o :: rest) a (W.alloc (.cells #[] 63)) := by
  obtain ⟨i0, hi, hz0, hz1, hz2⟩ := info_parts infoFile
  have hv' := hv
  subst hH
  obtain ⟨A, c, rfl, l1, l2, l3⟩ := hv
  have G1 : Gr W (W.alloc (.cells #[] 63)) := (Gr.refl _).alloc _
  have ho0 := own_none W 63 3
  cases A with
  | none =>
    have hn0 : L.length = 0 := by
      rcases Nat.eq_zero_or_pos L.length with h | h
      · exact h
      · obtain ⟨b, off, hh, _⟩ := l3 0 h
        cases hh
    have hL : L = [] := List.length_eq_zero_iff.1 hn0
    have hc0 := l2.2 rfl
    subst hL hc0
    refine wpList_append_own_none hgd s x 22 ho W.heap.size 63 i0 3 Tryz.underlying22 hi _ _ _ hs ho0 hx ?_
    have hp := h (some ⟨W.heap.size, 0, none⟩) 0 _ ho0 G1
    exact hp
  | some ad =>
    obtain ⟨hn, hnews⟩ := hv'.news
    refine wpList_append_own _ hgd s x 22 ho W.heap.size 63 i0 _ 3 48 Tryz.underlying22 hi hz0 hz1 hz2 rfl (by decide) _ _ _ hs ho0 ad L.length c (fcells L) hx (fcells_len L) ?_ (fcells_one L) (by unfold maxLen; omega) (by omega) G1.size ?_
    · exact fun j u hu => G1.cell (hnews j u hu)
    · intro v' w' hown hgrow _
      rw [Nat.zero_add, List.nil_append] at hown
      obtain ⟨A', c', rfl, _⟩ := own_form hown
      exact h A' c' w' hown (gr_of_grown G1 ho0 hgrow G1.size)

/-- A call's answer: a disk in new memory. -/
def RetDisk (L : List F) (w : World) (e : Ending) (w' : World) : Prop :=
  ∃ v, e = .returned (.agg #[v]) ∧ FO w' w.heap.size v L ∧ Gr w w'

end Go.Proofs.YtlnhbndghnkfmaaGreatDoor
