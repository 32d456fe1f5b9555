/- Walks: slices.Reverse of files: a row is turned round in its place. A region that draws its order, whose operations read cells of a class of worlds and whose calls leave the class: one walk of the text's order. A region that draws its order, within a round of a range over a function: what is shown as for any other region holds there. It names no program. Blocks, rows and worlds behind the turn of a block that is no cells. It names no function. -/
import Derived.Test.YtlnhbndghnkfmaaGreatDoorZm31
import Derived.Test.YtlnhbndghnkfmaaGreatDoorZm11
import Derived.Test.YtlnhbndghnkfmaaGreatDoorZm02
import Derived.Deep.QuietTactic
import Derived.Deep.Light
import Derived.Deep.RegionHeld3
import Derived.WalkKit
import Derived.Lib.Hide
import Derived.StillTail
import Derived.OrdersIn
import Derived.RangeFuncCalls
import Derived.OwnWalkIn
import Derived.RangeFuncFrom
import Derived.Test.YtlnhbndghnkfmaaGreatDoorZm18
namespace Go.Proofs.YtlnhbndghnkfmaaGreatDoor
open Go.Shelf Go.RowKit Go.Lib Go.Sort

instance : Inhabited F := ⟨zeroF⟩
theorem aggFile (w : World) : (isAgg 63).run Tryz.prog w = .ok true w := Tryz.isAgg63 w
theorem fcell_one (x : F) : ∀ v ∈ fcell x, v.oneCell' = true := by
  intro v hv
  unfold fcell at hv
  simp only [List.mem_cons, List.not_mem_nil, or_false] at hv
  rcases hv with rfl | rfl | rfl <;> rfl
/-- Of a row that is being turned round: i from each end are. -/
def RevTo {α : Type} [Inhabited α] (d dk : Array α) (n i : Nat) : Prop := ∀ j, j < n → dk[j]! = if j < i ∨ n - i ≤ j then d[n - 1 - j]! else d[j]!
theorem RevTo.swp {α : Type} [Inhabited α] {d dk : Array α} {n i : Nat} (h : RevTo d dk n i) (hs : dk.size = n) (h2 : 2 * i + 1 < n) : RevTo d (swp dk i (n - 1 - i)) n (i + 1) := by
  intro j hj
  have e := swp_get dk (show i < dk.size by omega) (show n - 1 - i < dk.size by omega) j
  rw [e]
  by_cases h1 : j = n - 1 - i
  · rw [if_pos h1, h i (by omega), if_neg (by omega), if_pos (by omega), h1, show n - 1 - (n - 1 - i) = i by omega]
  · rw [if_neg h1]
    by_cases h0 : j = i
    · rw [if_pos h0, h (n - 1 - i) (by omega), if_neg (by omega), if_pos (by omega), h0]
    · rw [if_neg h0, h j hj]
      by_cases hc : j < i ∨ n - i ≤ j
      · rw [if_pos hc, if_pos (by omega)]
      · rw [if_neg hc, if_neg (by omega)]
theorem RevTo.done {α : Type} [Inhabited α] {d dk : Array α} {n i : Nat} (h : RevTo d dk n i) (hs : dk.size = n) (hd : d.size = n) (h2 : n ≤ 2 * i + 1) : dk.toList = d.toList.reverse := by
  apply List.ext_getElem
  · simp; omega
  · intro j h1 h3
    have hj : j < n := by rw [← hs]; simpa using h1
    have e := h j hj
    rw [getElem!_pos dk j (by omega)] at e
    rw [List.getElem_reverse, Array.getElem_toList, e, Array.getElem_toList]
    split
    · rw [getElem!_pos d (n - 1 - j) (by omega)]
      simp [hd]
    · rename_i hc
      rw [getElem!_pos d j (by omega)]
      have : n - 1 - j = j := by omega
      simp [hd, this]
set_option maxRecDepth 1000000 in
set_option maxHeartbeats 4000000 in
theorem reverse_rows {α : Type} [Inhabited α] (enc : α → List Value) (k : Nat) (blk cap : Nat) (d : Array α) (w : World) (R : RowK enc k w blk 0 d) (ZE : ∀ w, (Go.sizeOf 63).run Tryz.prog w = .ok k w) (S0 : SWK enc k w blk 0 d w) (hsz : d.size < 4611686018427387904) :
    Calls Tryz.prog 117 #[.slice (some ⟨blk, 0, none⟩) d.size cap] w fun e w' => e = .returned (.tuple #[]) ∧ ∃ d', d'.toList = d.toList.reverse ∧ d'.size = d.size ∧ SWK enc k w blk 0 d' w' := by
  have zE := ZE
  have mixed := mixedA
  have aE := aggFile
  have S0' : Aside (SWK enc k w blk 0 d w) := S0
  clear S0
  obtain ⟨n, hn⟩ : ∃ n, n = d.size := ⟨_, rfl⟩
  rw [← hn] at hsz ⊢
  have HN := Lib.hid hn
  clear hn
  go_enter Tryz.func117, Tryz.ntmps117
  go_wp2_with fail
  go_loopg [2, 3] n (fun kx s2 s3 wr => ∃ (i : Nat) (dk : Array α), s2 = .int .i64 (i : Int) ∧ s3 = .int .i64 ((n : Int) - 1 - (i : Int)) ∧ 2 * i ≤ n + 1 ∧ n - i ≤ kx ∧ Aside (SWK enc k w blk 0 dk wr) ∧ Hid (dk.size = n) ∧ Hid (RevTo d dk n i))
  case atStart => exact ⟨0, d, rfl, by go_num, by omega, by omega, S0', Lib.hid HN.out.symm, Lib.hid (fun j hj => by rw [if_neg (by omega)])⟩
  case round =>
    clear S0'
    obtain ⟨i, dk, rfl, rfl, hi, hkx, S1, HDS, HAT⟩ := hrel
    by_cases hlt : 2 * i + 1 < n
    · have t0 : (i : Int) < (n : Int) - 1 - (i : Int) := by omega
      obtain ⟨j, hj⟩ : ∃ j, j = n - 1 - i := ⟨_, rfl⟩
      have ej : (n : Int) - 1 - (i : Int) = (j : Int) := by omega
      rw [ej] at t0 ⊢
      have HJ := Lib.hid (And.intro hj ej)
      have hds := HDS.out
      have hs := HN.out
      have hi1 : i < dk.size := by omega
      have hj1 : j < dk.size := by omega
      have S2 : Aside (SWK enc k w blk 0 (swp dk i j) ((wr.drew.setCells blk (0 + i * k) (enc dk[j]!)).setCells blk (0 + j * k) (enc dk[i]!))) := S1.out.swapped R i j hi1 hj1
      have S3 : Aside (SWK enc k w blk 0 (swp dk i j) ((wr.drew.setCells blk (0 + j * k) (enc dk[i]!)).setCells blk (0 + i * k) (enc dk[j]!))) := by
        have := S1.out.swapped R j i hj1 hi1
        have e : swp dk j i = swp dk i j := by
          apply Array.ext
          · rw [size_swp, size_swp]
          · intro q h1 h2
            have a := swp_get dk hj1 hi1 q
            have b := swp_get dk hi1 hj1 q
            rw [getElem!_pos (swp dk j i) q h1] at a
            rw [getElem!_pos (swp dk i j) q h2] at b
            rw [a, b]
            by_cases h3 : q = i
            · by_cases h4 : q = j
              · rw [if_pos h3, if_pos h4, ← h4, h3]
              · rw [if_pos h3, if_neg h4, if_pos h3]
            · by_cases h4 : q = j
              · rw [if_neg h3, if_pos h4, if_pos h4]
              · rw [if_neg h3, if_neg h4, if_neg h4, if_neg h3]
        rw [e] at this
        exact this
      have la := S1.out.ld1 R (by omega) Tryz.prog i hi1
      have lb := S1.out.ld1 R (by omega) Tryz.prog j hj1
      have sa := S1.out.st1 R (by omega) Tryz.prog i hi1 dk[j]!
      have sb := S1.out.st2 R (by omega) Tryz.prog i j hi1 hj1 dk[j]! dk[i]!
      have ta := S1.out.st1 R (by omega) Tryz.prog j hj1 dk[i]!
      have tb := S1.out.st2 R (by omega) Tryz.prog j i hj1 hi1 dk[i]! dk[j]!
      have na : (enc dk[i]!).length = k := R.hk _
      have nb : (enc dk[j]!).length = k := R.hk _
      have HAT2 : Hid (RevTo d (swp dk i j) n (i + 1)) := Lib.hid (by rw [HJ.out.1]; exact HAT.out.swp HDS.out hlt)
      have HDS2 : Hid ((swp dk i j).size = n) := Lib.hid (by rw [size_swp]; exact hds)
      have b0 : (0 : Int) ≤ (i : Int) := by omega
      have b1 : (i : Int) < (n : Int) := by omega
      have b2 : (0 : Int) ≤ (j : Int) := by omega
      have b3 : (j : Int) < (n : Int) := by omega
      have HB : Hid (i + 1 ≤ n ∧ 2 * (i + 1) ≤ n + 1) := Lib.hid (by omega)
      generalize swp dk i j = dn at S2 S3 HAT2 HDS2
      generalize enc dk[i]! = cI at S2 S3 la sb ta tb na
      generalize enc dk[j]! = cJ at S2 S3 lb sa sb tb nb
      clear S1 hds hs hj ej
      rw [Nat.zero_add] at la lb sa sb ta tb S2 S3
      simp only [Nat.zero_add] at la lb sa sb ta tb S2 S3
      go_wp2_with fail
      go_big_region_o
      have HJ2 := HJ.out.2
      clear la lb sa sb ta tb S3
      generalize (wr.drew.setCells blk (i * k) cJ).setCells blk (j * k) cI = w2 at S2 ⊢
      go_wp2
      go_roundg (n - (i + 1))
      case measure => have := HB.out; omega
      case rel => exact ⟨i + 1, dn, by go_num, by go_num, HB.out.2, Nat.le_refl _, S2, HDS2, HAT2⟩
    · have t0 : ¬ (i : Int) < (n : Int) - 1 - (i : Int) := by omega
      have HE : Hid (dk.toList = d.toList.reverse) := Lib.hid (HAT.out.done HDS.out HN.out.symm (by omega))
      go_wp2
      go_end0
      exact ⟨rfl, dk, HE.out, HDS.out, S1.out⟩
theorem flatF_at (d : Array F) {j : Nat} (h : j < d.size * 3) : (fcells d.toList)[j]? = some (flatK fcell 3 d)[j]! := by
  rw [get_flatK fcell 3 d j h]
  have hq : j / 3 < d.size := by omega
  have e := rows_at fcell 3 fcell_len d.toList (j / 3) (j % 3) (by simpa using hq) (by omega)
  rw [show j / 3 * 3 + j % 3 = j by omega] at e
  show (d.toList.flatMap fcell)[j]? = _
  rw [e, getElem!_pos d (j / 3) hq]
  have hl : (fcell d[j / 3]).length = 3 := rfl
  rw [getElem!_pos (fcell d[j / 3]) (j % 3) (by omega)]
  rw [List.getElem?_eq_getElem (by rw [fcell_len]; omega)]
  simp
theorem fholds_of_own {w : World} {B g c n : Nat} {L : List F} (h : FO w B (.slice (some ⟨g, 0, none⟩) n c) L) (hn : n = L.length) : HoldsK fcell 3 w g 0 L.toArray := by
  subst hn
  intro j hj
  rw [size_flatK, List.size_toArray] at hj
  have e := flatF_at L.toArray (j := j) (by simpa using hj)
  have e' : (fcells L)[j]? = some (flatK fcell 3 L.toArray)[j]! := e
  refine ⟨?_, ?_⟩
  · have := World.ownsRow.cells h (g := g) rfl j _ e'
    rw [Go.WideShapes.add_plain] at this
    exact this
  · rw [Nat.zero_add]
    exact h.frozenAt j
theorem fsw_heap {w0 w' : World} {g t : Nat} {d' : Array F} {cur : Array Value} (h : SWK fcell 3 w0 g 0 d' w') (hg : w0.heap[g]? = some (.cells cur t (0, 0))) : ∃ cur', w'.heap[g]? = some (.cells cur' t (0, 0)) ∧ cur'.size = cur.size := by
  obtain ⟨n, os, rfl⟩ := h
  have hlt : g < w0.heap.size := (Array.getElem?_eq_some_iff.1 hg).1
  unfold sortWorldK
  refine ⟨putCells id 0 (flatK fcell 3 d') cur, ?_, by simp [putCells]⟩
  show ((putRowK fcell 3 (Sort.ahead w0 n) g 0 d').heap ++ os)[g]? = _
  rw [Array.getElem?_append_left (by rw [size_putRowK]; exact hlt)]
  show (w0.heap.modify g (onCells _))[g]? = _
  have hg' : w0.heap[g] = .cells cur t (0, 0) := (Array.getElem?_eq_some_iff.1 hg).2
  rw [Array.getElem?_eq_getElem (by simpa using hlt), Array.getElem_modify, if_pos rfl, hg']
  rfl
theorem fsw_kp {w0 w' : World} {g : Nat} {d' : Array F} (h : SWK fcell 3 w0 g 0 d' w') : Kp (some g) w0 w' := by
  obtain ⟨n, os, rfl⟩ := h
  refine ⟨rfl, rfl, rfl, by unfold sortWorldK; rw [size_grow, size_putRowK]; exact Nat.le_add_right _ _, fun k hk hr => ?_⟩
  show ((putRowK fcell 3 (Sort.ahead w0 n) g 0 d').heap ++ os)[k]? = _
  rw [Array.getElem?_append_left (by rw [size_putRowK]; exact hk)]
  show (w0.heap.modify g (onCells _))[k]? = _
  rw [Array.getElem?_eq_getElem (by simpa using hk), Array.getElem_modify, if_neg (fun e => hr (by rw [e])), Array.getElem?_eq_getElem hk]
theorem fown_of_sw {w0 w' : World} {B g c : Nat} {L : List F} {d' : Array F} (h : FO w0 B (.slice (some ⟨g, 0, none⟩) L.length c) L) (R : RowK fcell 3 w0 g 0 L.toArray) (S : SWK fcell 3 w0 g 0 d' w') (hs : d'.size = L.length) : FO w' B (.slice (some ⟨g, 0, none⟩) L.length c) d'.toList := by
  have hl : d'.toList.length = L.length := by simpa using hs
  rcases h.2 with ⟨hv, _⟩ | ⟨g', cap, cur, hv, hb, hg, hn, hm, hc, _⟩
  · cases hv
  · injection hv with e1 e2 e3
    injection e1 with e1
    injection e1 with e1
    subst e1 e3
    obtain ⟨cur', hg', hcs⟩ := fsw_heap S hg
    have hh := S.holds R.hblk R.hH (by simpa using hs)
    refine ⟨by rw [fcells_len], .inr ⟨g, c, cur', by rw [hl], hb, hg', by rw [hl]; exact hn, hm, by rw [hcs, hc], ?_⟩⟩
    rw [hl]
    apply List.ext_getElem?
    intro j
    by_cases hj : j < L.length * 3
    · have e := flatF_at d' (j := j) (by rw [hs]; exact hj)
      rw [e]
      have hq := (hh j (by rw [size_flatK, hs]; exact hj)).1
      rw [Nat.zero_add] at hq
      have hjc : j < cur'.size := by rw [hcs, hc]; have := Nat.mul_le_mul_right 3 hn; omega
      unfold World.cell? at hq
      simp only [hg'] at hq
      rw [List.getElem?_take, if_pos hj]
      simpa using hq
    · rw [List.getElem?_eq_none (by rw [List.length_take]; omega), List.getElem?_eq_none (by rw [fcells_len, hl]; omega)]
set_option maxRecDepth 100000 in
theorem reverse_nil (A : Option Addr) (c : Nat) (w : World) :
    Calls Tryz.prog 117 #[.slice A 0 c] w fun e w' => e = .returned (.tuple #[]) ∧ w' = w := by
  go_enter Tryz.func117, Tryz.ntmps117
  go_wp2_with fail
  go_loopg [2, 3] 1 (fun kx s2 s3 wr => s2 = .int .i64 0 ∧ s3 = .int .i64 (-1) ∧ wr = w)
  case atStart => exact ⟨rfl, by go_num, rfl⟩
  case round =>
    obtain ⟨rfl, rfl, rfl⟩ := hrel
    go_wp2
    go_end0
    exact ⟨rfl, rfl⟩
/-- A row of files, turned round in its place. -/
theorem reverse_any (v : Value) (L : List F) (B : Nat) (w : World) (hv : FO w B v L) (hlen : L.length < 4611686018427387904) :
    Calls Tryz.prog 117 #[v] w fun e w' => e = .returned (.tuple #[]) ∧ FO w' B v L.reverse ∧ Kp v.ownBlock w w' := by
  have hv0 := hv
  rcases hv.2 with ⟨rfl, h0⟩ | ⟨g, cap, cur, rfl, hb, hg, hn, hm, hc, ht⟩
  · refine (reverse_nil _ _ w).mono ?_
    rintro e w' ⟨rfl, rfl⟩
    have : L = [] := List.length_eq_zero_iff.1 h0
    subst this
    exact ⟨rfl, hv, Kp.refl _ _⟩
  · have R : RowK fcell 3 w g 0 L.toArray := ⟨fcell_len, fcell_one, fholds_of_own hv0 rfl, (Array.getElem?_eq_some_iff.1 hg).1⟩
    have h := reverse_rows fcell 3 g cap L.toArray w R sizeFile ?_ (by simpa using hlen)
    · rw [List.size_toArray] at h
      refine h.mono ?_
      rintro e w' ⟨rfl, d', hd, hs, S⟩
      have hs' : d'.size = L.length := by simpa using hs
      have := fown_of_sw hv0 R S hs'
      rw [hd] at this
      exact ⟨rfl, this, fsw_kp S⟩
    · exact SWK.start R.hH
end Go.Proofs.YtlnhbndghnkfmaaGreatDoor
namespace Go.Proofs.YtlnhbndghnkfmaaGreatDoor

section
variable {P : Program} {ops : Array Oper} {C : World → Prop} {Q : Act → Prop} {o : Oper} {rest : List Oper} {a : Act}
end

section
variable {P : Program} {md : Region.Mode} {ops : Array Oper} {Q : Exit → Act → World → Prop} {S : World → Prop}
/-- A region by hand: an operation that yields its value is taken first. -/
theorem hTake {i : Nat} {oi : Oper} {fuel : Nat} {listed : Array Bool} {a : Act} {w : World} (hi : ops[i]? = some oi)
    (hs : Region.noSelect ops = true) (hf : Region.free md ops listed i = true) (hr : (Region.ready md ops listed).contains i = true)
    (hw : Region.wanted oi (yielded ops a.tmps) = true) (hS : S w)
    (h : ∃ v, (∀ c a w, Q (.panic c) (a.put oi.dst v) w → Q (.panic c) a w) ∧ (∀ w, S w → (execOp a.eval oi).run P w = .ok (.value v) w) ∧ wpAnyH P md ops Q S fuel (listed.setIfInBounds i true) (a.put oi.dst v) w) : wpAnyH P md ops Q S (fuel + 1) listed a w := by
  obtain ⟨v, hQ, hv, h⟩ := h
  exact wpAnyH_take hi hs hf hr hQ (Or.inl ⟨hw, hv⟩) hS h
end
end Go.Proofs.YtlnhbndghnkfmaaGreatDoor
namespace Go.Proofs.YtlnhbndghnkfmaaGreatDoor

section
variable {P : Program} {ops : Array Oper} {md : Region.Mode} {Q : Exit → Act → World → Prop} {l n : Nat}
def notDefer (ops : Array Oper) : Bool := ops.all fun o => match o.op with | .defer _ => false | _ => true
theorem notDefer_spec (h : notDefer ops = true) {i : Nat} {o : Oper} (ho : ops[i]? = some o) (c : Call) : o.op ≠ .defer c := by
  obtain ⟨hi, rfl⟩ := Array.getElem?_eq_some_iff.1 ho
  intro e
  have := Array.all_eq_true.1 h i hi
  rw [e] at this
  cases this
theorem oper_round {o : Oper} {a : Act} {w : World} {K : Act → World → Prop} (hd : ∀ c, o.op ≠ .defer c) (h : o.wp P a w K Q) : o.wpIn (Fence.wide.inRound l) n P a w K Q := by
  unfold Oper.wp at h
  unfold Oper.wpIn
  refine ⟨fun _ _ => trivial, ?_⟩
  rw [Oper.semAt_plain _ _ _ hd]
  generalize (execOp a.eval o).run P w = r at *
  cases r with
  | ok x w' =>
    cases x <;> simp only [Oper.upon, Oper.uponIn] at h ⊢
    case value => exact h
    case skip => exact h
    case defer => exact h
    case enter => exact ⟨fun h => (by cases h), CallsIn.inRound l (callsIn_wide.2 h)⟩
    case row => exact ⟨fun h => (by cases h), fun c cs _ => let ⟨v, w', r, s⟩ := h c cs; ⟨v, w', r, stepsIn_wide.2 s⟩⟩
  | halt x w' => cases x <;> simp only [Oper.upon, Oper.uponIn] at h ⊢ <;> exact h
theorem any_round (hd : notDefer ops = true) (hq : ¬ LetsOut Q) : ∀ (fuel : Nat) (listed : Array Bool) (a : Act) (w : World), wpAny P md ops Q fuel listed a w → wpAnyIn (Fence.wide.inRound l) n P md ops Q fuel listed a w
  | 0, _, _, _, h => h
  | fuel + 1, listed, a, w, h => ⟨h.1, fun i hi => by
      have h2 := h.2 i hi
      unfold wpOp at h2
      unfold wpOpIn
      cases ho : ops[i]? with
      | none =>
        simp only [ho] at h2
        exact any_round hd hq fuel _ a w h2
      | some o =>
        simp only [ho] at h2 ⊢
        split
        · rename_i hw
          rw [if_pos hw] at h2
          rcases h2 with h2 | h2
          · exact Oper.wpIn_mono (fun a w h => any_round hd hq fuel _ a w h) (oper_round (notDefer_spec hd ho) h2)
          · exact (hq h2.2).elim
        · rename_i hw
          rw [if_neg hw] at h2
          exact ⟨fun _ _ => trivial, any_round hd hq fuel _ _ _ h2⟩⟩
/-- A region by hand, in a round. -/
theorem heldRound {S : World → Prop} {id : Nat} {a : Act} {w : World} (hm : P.follows .mixedOrders = true) (hd : notDefer ops = true) (hq : ¬ LetsOut Q) (hS : S w.drew)
    (h : S w.drew → wpAnyH P .any ops Q S ops.size (Array.replicate ops.size false) a w.drew) : (Code.region id ops true).wpIn (Fence.wide.inRound l) n P Q a w :=
  wpIn_region_any hm (any_round hd hq _ _ _ _ (wpAny_of_held _ _ _ _ (h hS)))
end
end Go.Proofs.YtlnhbndghnkfmaaGreatDoor
namespace Go.Proofs.YtlnhbndghnkfmaaGreatDoor
open Go.RowKit

theorem ko_gr {a b : World} (g : Gr a b) : KeepsOthers a b := ⟨g.size, fun k o hk _ => by rw [g.block k (Array.getElem?_eq_some_iff.1 hk).1]; exact hk⟩
theorem ko_own {a b : World} {B : Nat} {t : TypeId} {size n : Nat} {v : Value} {xs : List Value} (h : a.ownsRow B t size v n xs) (k : a.grownBy b v.ownBlock) : KeepsOthers a b :=
  KeepsOthers.of_grownBy k fun j o ej hj => by
    rcases h.2 with ⟨rfl, _⟩ | ⟨g, cap, cur, rfl, _, hg, _⟩
    · simp [Value.ownBlock] at ej
    · obtain rfl : g = j := by simpa [Value.ownBlock] using ej
      rw [hg] at hj
      cases hj
      rfl
theorem put_other {w : World} {b D : Nat} {o o' : Obj} (h : w.heap[b]? = some o) (hne : b ≠ D) : (w.putObj D o').heap[b]? = some o := by
  rw [World.putObj_heap_other hne]
  exact h
theorem cells_far {W W' : World} {row : Option Nat} {j : Nat} {cs : Array Value} {ty : TypeId} {fr : Nat × Nat} (h : W.heap[j]? = some (.cells cs ty fr)) (hg : W.grownBy W' row) (hr : ∀ r, row = some r → ∃ o : Obj, W.heap[r]? = some o ∧ o.isCells = false) : W'.heap[j]? = some (.cells cs ty fr) := by
  rw [hg.block j (Array.getElem?_eq_some_iff.1 h).1 (fun e => by
    obtain ⟨o, ho, hc⟩ := hr j e.symm
    rw [h] at ho
    cases ho
    cases hc)]
  exact h
theorem row_far {W W' : World} {row : Option Nat} {B : Nat} {ty : TypeId} {size n : Nat} {v : Value} {xs : List Value} (h : W.ownsRow B ty size v n xs) (hg : W.grownBy W' row) (hr : ∀ r, row = some r → ∃ o : Obj, W.heap[r]? = some o ∧ o.isCells = false) : W'.ownsRow B ty size v n xs := by
  refine h.kept hg ?_
  rcases h.2 with ⟨rfl, _⟩ | ⟨g, cap, cur, rfl, _, hgb, _⟩
  · exact .inl rfl
  · refine .inr fun e' => ?_
    obtain ⟨o, ho, hc⟩ := hr g (by simpa [Value.ownBlock] using e'.symm)
    rw [hgb] at ho
    cases ho
    cases hc
theorem gr_far {w W W' : World} {row : Option Nat} (h : Gr w W) (hg : W.grownBy W' row) (hr : ∀ r, row = some r → w.heap.size ≤ r) : Gr w W' :=
  ⟨hg.os.trans h.os, hg.tape.trans h.tape, hg.output.trans h.output, Nat.le_trans h.size hg.size, fun i hi => (hg.block i (Nat.lt_of_lt_of_le hi h.size) (fun e => by have := hr i e.symm; omega)).trans (h.block i hi)⟩
end Go.Proofs.YtlnhbndghnkfmaaGreatDoor
