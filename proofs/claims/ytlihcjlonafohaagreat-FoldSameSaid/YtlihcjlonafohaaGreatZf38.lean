/- Regions whose last operation is a store that waits for all others: one invariant, each operation walked once. What the document's Value keeps while it walks; what it answers over the document's order. Walks: the document's Copy of logs; its rows lie in blocks of their own. What the document's rows of places answer is what the program's deeds make: elements and flags. Walks: the document's Value, kind 1. Written by wip/tools/genrv.py. Walks: the document's Value, kind 2. Written by wip/tools/genrv.py. Walks: the document's Value, what the rounds share. Written by wip/tools/genrv.py. -/
import Derived.Test.YtlihcjlonafohaaGreatZf14
import Derived.Test.YtlihcjlonafohaaGreatZf08
import Derived.Test.YtlihcjlonafohaaGreatZf37
import Derived.Test.YtlihcjlonafohaaGreatZf18
import Derived.Test.YtlihcjlonafohaaGreatZf15
import Derived.Test.YtlihcjlonafohaaGreatZf19
namespace Go.Proofs.YtlihcjlonafohaaGreat
open Go.RowKit

/-- N: the last operation; Q: what each other one has left; F: what the store leaves; ed: which operation waits for which. -/
structure RL (W0 : World) (N : Nat) (Q : Nat → World → Value → Prop) (F : World → Prop) (ed : List (Nat × Nat)) (vals : Vals) (w : World) : Prop where
  st : ∀ k y w1 w2, Q k w1 y → Gr w1 w2 → Q k w2 y
  pre : vals N = none → Gr W0 w ∧ ∀ k y, vals k = some y → Q k w y
  fin : vals N ≠ none → F w
  ch : ∀ e ∈ ed, vals e.1 = none → vals e.2 = none
section
variable {W0 : World} {N : Nat} {Q : Nat → World → Value → Prop} {F : World → Prop} {ed : List (Nat × Nat)} {vals : Vals} {w : World}
theorem rl_start {W1 : World} (hst : ∀ k y w1 w2, Q k w1 y → Gr w1 w2 → Q k w2 y) (g : Gr W0 W1) : RL W0 N Q F ed (fun _ => none) W1.drew :=
  ⟨hst, fun _ => ⟨g.drew, fun _ _ h => (by cases h)⟩, fun h => absurd rfl h, fun _ _ _ => rfl⟩
theorem RL.edge (h : RL W0 N Q F ed vals w) {i j : Nat} (he : (i, j) ∈ ed) (hi : vals i = none) : vals j = none := h.ch (i, j) he hi
theorem RL.gr (h : RL W0 N Q F ed vals w) (hN : vals N = none) : Gr W0 w := (h.pre hN).1
theorem RL.ok (h : RL W0 N Q F ed vals w) (hN : vals N = none) {k : Nat} {y : Value} (hy : vals k = some y) : Q k w y := (h.pre hN).2 k y hy
theorem RL.val (h : RL W0 N Q F ed vals w) {k : Nat} {y : Value} {w' : World} (hN : vals N = none) (hk : k ≠ N) (hpre : (ed.all fun e => !(e.2 == k) || (vals e.1).isSome) = true) (g : Gr w w') (hq : Q k w' y) : RL W0 N Q F ed (vals.up k y) w' := by
  have eN : vals.up k y N = vals N := Vals.up_ne vals y (Ne.symm hk)
  refine ⟨h.st, fun _ => ⟨(h.gr hN).trans g, fun j x hx => ?_⟩, fun hc => absurd (by rw [eN]; exact hN) hc, fun e he h1 => ?_⟩
  · by_cases ej : j = k
    · subst ej
      rw [Vals.up_at] at hx
      rw [← Option.some.inj hx]
      exact hq
    · rw [Vals.up_ne vals y ej] at hx
      exact h.st _ _ _ _ (h.ok hN hx) g
  · have e1 : e.1 ≠ k := fun c => by rw [c, Vals.up_at] at h1; cases h1
    rw [Vals.up_ne vals y e1] at h1
    have e2 : e.2 ≠ k := fun c => by
      have := List.all_eq_true.1 hpre e he
      rw [c] at this
      simp [h1] at this
    rw [Vals.up_ne vals y e2]
    exact h.ch e he h1
theorem RL.last (h : RL W0 N Q F ed vals w) {y : Value} {w' : World} (hpre : (ed.all fun e => !(e.2 == N) || (vals e.1).isSome) = true) (hF : F w') : RL W0 N Q F ed (vals.up N y) w' := by
  refine ⟨h.st, fun hc => (by rw [Vals.up_at] at hc; cases hc), fun _ => hF, fun e he h1 => ?_⟩
  have e1 : e.1 ≠ N := fun c => by rw [c, Vals.up_at] at h1; cases h1
  rw [Vals.up_ne vals y e1] at h1
  have e2 : e.2 ≠ N := fun c => by
    have := List.all_eq_true.1 hpre e he
    rw [c] at this
    simp [h1] at this
  rw [Vals.up_ne vals y e2]
  exact h.ch e he h1
end
structure SpecG where
  P : World → Value → Prop
  st : ∀ y w1 w2, P w1 y → Gr w1 w2 → P w2 y
def SpecG.fix (v : Value) : SpecG := ⟨fun _ y => y = v, fun _ _ _ h _ => h⟩
def SpecG.any : SpecG := ⟨fun _ _ => True, fun _ _ _ _ _ => trivial⟩
def SpecG.strs (m : Nat) (E : List ByteArray) : SpecG := ⟨fun w y => ∃ A c, y = .slice A m c ∧ SV w (.slice A m c) E, fun _ _ _ ⟨A, c, h1, h2⟩ g => ⟨A, c, h1, h2.gr g⟩⟩
end Go.Proofs.YtlihcjlonafohaaGreat
namespace Go.Proofs.YtlihcjlonafohaaGreat
open Go.RowKit Go.Joins
set_option linter.unusedSimpArgs false
set_option linter.unusedVariables false

/-- The answer's box holds these elements and this flag, and the two rows of places read on. -/
structure ST (w0 : World) (Q : Nat) (s4 : Value) (L4 : List (TX × Nat)) (s5 : Value) (L5 : List (TX × Nat)) (E : List ByteArray) (on : Bool) (w : World) : Prop where
  ex : ∃ A m c, QBox w Q 0 A m c on ∧ SV w (.slice A m c) E
  p4 : PLR w s4 L4
  p5 : PLR w s5 L5
  gr : Gr w0 w
section
variable {w0 w w' : World} {Q : Nat} {s4 s5 : Value} {L4 L5 : List (TX × Nat)} {E : List ByteArray} {on : Bool}
theorem ST.grow (h : ST w0 Q s4 L4 s5 L5 E on w) (g : Gr w w') : ST w0 Q s4 L4 s5 L5 E on w' := by
  obtain ⟨A, m, c, h1, h2⟩ := h.ex
  exact ⟨⟨A, m, c, h1.gr g, h2.gr g⟩, h.p4.gr g, h.p5.gr g, h.gr.trans g⟩
theorem ST.put (h : ST w0 Q s4 L4 s5 L5 E on w) (hq : w0.heap.size ≤ Q) {A : Option Addr} {m c : Nat} {E' : List ByteArray} (hv : SV w (.slice A m c) E') : ST w0 Q s4 L4 s5 L5 E' on (w.setCell ⟨Q, 1, none⟩ (.slice A m c)) := by
  obtain ⟨A0, m0, c0, h1, h2⟩ := h.ex
  have k : Kp (some Q) w (w.setCell ⟨Q, 1, none⟩ (.slice A m c)) := (Kp.refl (some Q) w).set (.inr rfl) _ _
  exact ⟨⟨A, m, c, h1.set1 A m c, hv.kq h1 k⟩, h.p4.kq h1 k, h.p5.kq h1 k, h.gr.setCell hq _⟩
theorem ST.flag (h : ST w0 Q s4 L4 s5 L5 E on w) (hq : w0.heap.size ≤ Q) (on' : Bool) : ST w0 Q s4 L4 s5 L5 E on' (w.setCell ⟨Q, 2, none⟩ (.bool on')) := by
  obtain ⟨A0, m0, c0, h1, h2⟩ := h.ex
  have k : Kp (some Q) w (w.setCell ⟨Q, 2, none⟩ (.bool on')) := (Kp.refl (some Q) w).set (.inr rfl) _ _
  exact ⟨⟨A0, m0, c0, h1.set2 on', h2.kq h1 k⟩, h.p4.kq h1 k, h.p5.kq h1 k, h.gr.setCell hq _⟩
end
theorem sv_form {w : World} {v : Value} {E : List ByteArray} (h : SV w v E) : ∃ A c, v = .slice A E.length c := by
  obtain ⟨A, c, hv, _⟩ := h
  exact ⟨A, c, hv⟩
/-- What the document answers over its order of the transactions. -/
def rvR (kind start : Int) (O : List TX) (key : ByteArray) : VR :=
  if kind = 1 ∨ kind = 2 then ⟨wrap64 (start + wrap64 (sumAll (plL key 1 O) - sumAll (plL key 2 O))), [], false⟩
  else if kind = 3 ∨ kind = 8 then ⟨0, foldT (fun x => !ansB x (plL key 5 O)) (plL key 4 O) (plL key 4 O).length, false⟩
  else if kind = 4 then ⟨0, foldT (fun x => firB (elP x) (plL key 4 O) (plL key 5 O)) (plL key 4 O) (plL key 4 O).length, false⟩
  else if kind = 5 then ⟨0, (match (plL key 6 O)[(plL key 6 O).length - 1]? with | some x => [elP x] | none => []), false⟩
  else if kind = 6 then ⟨0, foldT (fun x => !covB x (plL key 6 O)) (plL key 6 O) (plL key 6 O).length, false⟩
  else ⟨0, [], (!decide (start = 0) && decide ((plL key 8 O).length = 0)) || (plL key 7 O).any (fun x => !ansB x (plL key 8 O))⟩
def RetR (r : VR) (k : Nat) (w : World) (e : Ending) (w' : World) : Prop := ∃ ve, e = .returned (.tuple #[.agg #[.int .i64 r.n, ve, .bool r.on], .int .i64 (k : Int)]) ∧ SV w' ve r.e ∧ Gr w w'
theorem qbox_new (w : World) : ∃ W, W = w.alloc (.cells #[.int .i64 0, .slice none 0 0, .bool false] 49) ∧ Gr w W ∧ QBox W w.heap.size 0 none 0 0 false := by
  refine ⟨_, rfl, (Gr.refl w).alloc _, ?_⟩
  show _ = _
  exact heap_alloc _ _ _
theorem ok_len {l : LG} {v : Nat → Nat} (hl : OkL l) : (ordR l v).length ≤ 65536 := by
  rw [ordR_len]
  have h : ∀ i, i < 8 → mt v (sizeV l) i ≤ 1024 := fun i hi => Nat.le_trans (Nat.min_le_right _ _) (hl.len i hi)
  unfold sumV
  simp only [sumTo]
  have h0 := h 0 (by decide); have h1 := h 1 (by decide); have h2 := h 2 (by decide); have h3 := h 3 (by decide)
  have h4 := h 4 (by decide); have h5 := h 5 (by decide); have h6 := h 6 (by decide); have h7 := h 7 (by decide)
  omega
theorem ok_ops {l : LG} {v : Nat → Nat} (hl : OkL l) : ∀ t ∈ ordR l v, t.ops.length ≤ 8 := fun t ht => by
  obtain ⟨i, k, hi, -, hk⟩ := ordR_mem.1 ht
  exact (hl.tx i k t hi hk).1.2.2.1
end Go.Proofs.YtlihcjlonafohaaGreat
namespace Go.Proofs.YtlihcjlonafohaaGreat
open Go.RowKit Go.Joins
set_option linter.unusedSimpArgs false
set_option linter.unusedVariables false

/-- The inner rounds: of log k the first d are copied. -/
structure RdI (w : World) (u : Nat → S3) (l : LG) (k : Nat) (ur : Nat → S3) (wo : World) (d : Nat) (A : Option Addr) (c : Nat) (R : List TR) (us : Nat → S3) (wr : World) : Prop where
  a : LBox wr w.heap.size u
  z : LBox wr (w.heap.size + 1) (fun _ => ⟨none, 0, 0⟩)
  b : LBox wr (w.heap.size + 1 + 1) us
  at' : us k = ⟨A, d, c⟩
  ne : ∀ j, j ≠ k → us j = ur j
  row : wr.ownsRow wo.heap.size 45 12 (.slice A d c) d (trs R)
  tx : texts R = (l k).take d
  ops : TOn wr (w.heap.size + 3) R
  mid : Mid (w.heap.size + 3) wo wr
  gr : Gr w wr
theorem RdI.next {w wo wr w' : World} {u ur us : Nat → S3} {l : LG} {k d c : Nat} {A : Option Addr} {R : List TR} (h : RdI w u l k ur wo d A c R us wr) (g : Gr wr w') : RdI w u l k ur wo d A c R us w' :=
  ⟨h.a.gr g, h.z.gr g, h.b.gr g, h.at', h.ne, own_gr h.row g, h.tx, h.ops.mid (Mid.of_gr g), h.mid.gr g, h.gr.trans g⟩
/-- One more: the row has grown, its new slice is stored. -/
theorem RdI.more {w wo w8 w9 : World} {u ur us : Nat → S3} {l : LG} {k d c c' : Nat} {A A' : Option Addr} {R : List TR} {t : TX} {s : S3} (h : RdI w u l k ur wo d A c R us w8) (hk : k < 8) (hB : w.heap.size + 3 ≤ wo.heap.size)
    (hd : d < (l k).length) (ht : (l k)[d] = t) (hs : TOO w8 (w.heap.size + 3) s.v t.ops) (kp : w8.grownBy w9 (Value.slice A d c).ownBlock)
    (hown : w9.ownsRow wo.heap.size 45 12 (.slice A' (d + 1) c') (d + 1) (trs (R ++ [(t, s)]))) :
    RdI w u l k ur wo (d + 1) A' c' (R ++ [(t, s)]) (updS us k ⟨A', d + 1, c'⟩) (w9.setCell ⟨w.heap.size + 1 + 1, k, none⟩ (.slice A' (d + 1) c')) := by
  have hb := own_below h.row kp
  have hsz : w8.heap.size ≤ w9.heap.size := Kp.size kp
  have h89 : wo.heap.size ≤ w8.heap.size := h.mid.size
  have e0 := hb w.heap.size (by omega) h.a.lt
  have e1 := hb (w.heap.size + 1) (by omega) h.z.lt
  have e2 := hb (w.heap.size + 1 + 1) (by omega) h.b.lt
  have m9 : Mid (w.heap.size + 3) wo w9 := ⟨Nat.le_trans h.mid.size hsz, fun x hx hl => (hb x hl (by omega)).trans (h.mid.mid x hx hl)⟩
  have g9 : Gr w w9 := h.gr.grown h.row (by omega) kp
  have ms : Mid (w.heap.size + 3) w9 (w9.setCell ⟨w.heap.size + 1 + 1, k, none⟩ (.slice A' (d + 1) c')) := (Mid.refl _ _).set (.inl (by show w.heap.size + 1 + 1 < _; omega)) _
  refine ⟨(h.a.keep e0).far (by simp only []; omega) _, (h.z.keep e1).far (by simp only []; omega) _, (h.b.keep e2).set hk _ _ _, if_pos rfl, fun j hj => ?_, ?_, ?_, ?_, m9.trans ms, ?_⟩
  · show (if j = k then _ else us j) = _
    rw [if_neg hj]; exact h.ne j hj
  · exact ownsRow_setCell_below hown (by show w.heap.size + 1 + 1 < _; omega) _
  · unfold texts
    rw [List.map_append, show R.map (·.1) = (l k).take d from h.tx, List.take_add_one, List.getElem?_eq_getElem hd, ht]
    rfl
  · intro r hr
    refine own_mid ?_ ms
    rcases List.mem_append.1 hr with hr | hr
    · exact TOO.grown (h.ops r hr) h.row hB kp
    · simp only [List.mem_singleton] at hr
      subst hr
      exact TOO.grown hs h.row hB kp
  · exact g9.setCell (by show w.heap.size ≤ w.heap.size + 1 + 1; omega) _

end Go.Proofs.YtlihcjlonafohaaGreat
namespace Go.Proofs.YtlihcjlonafohaaGreat
open Go.RowKit Go.Joins
set_option linter.unusedSimpArgs false
set_option linter.unusedVariables false

/-- The elements put in, at the end. -/
theorem foldT_all (P : TX × Nat → Bool) (L : List (TX × Nat)) : foldT P L L.length = riseT ((L.filter P).map elP) := by
  have h : ∀ j, j ≤ L.length → foldT P L j = riseT (((L.take j).filter P).map elP) := by
    intro j
    induction j with
    | zero => intro _; simp [foldT, riseT]
    | succ j ih =>
      intro hj
      have hx : L[j]? = some L[j] := List.getElem?_eq_getElem hj
      rw [List.take_add_one, hx, List.filter_append, List.map_append]
      cases hp : P L[j] with
      | true =>
        rw [foldT_yes hx hp, ih (by omega), intoT_ins, ← riseT_snoc]
        simp [hp]
      | false =>
        rw [foldT_no hx hp, ih (by omega)]
        simp [hp]
  rw [h _ (Nat.le_refl _), List.take_length]
end Go.Proofs.YtlihcjlonafohaaGreat
namespace Go.Proofs.YtlihcjlonafohaaGreat
open Go.RowKit Go.Joins
set_option linter.unusedSimpArgs false
set_option linter.unusedVariables false

set_option maxRecDepth 100000 in
set_option maxHeartbeats 8000000 in
theorem rvalK1 (start : Int) (u : Nat → S3) (l : LG) (v : Nat → Nat) (key : ByteArray) (w : World) (h : LV w u l) (hq : FitQ l) (hfc : FitC l) (hok : checkE l = 0) (hcl : closedB l v = true) (hb : wrap64 start = start) :
    Calls Tryz.prog 17 #[.int .i64 1, .int .i64 start, .agg (lcells u), .agg (vcells v), .string key] w fun e w' => RetR (rvR 1 start (ordR l v) key) 0 w e w' := by
  obtain ⟨W, hW, hg, hL, hV, hz⟩ := boxesVa u v w
  have HSW : Hid (w.heap.size + 1 + 1 < W.heap.size) := Lib.hid (by rw [hW]; simp)
  have HL := Lib.hid hL
  have HV := Lib.hid hV
  have HZ := Lib.hid hz
  have HG := Lib.hid hg
  have HBD := Lib.hid hb
  have hl := okL_iff.1 hok
  have HCK := Lib.hid (fun w1 (g : Gr W w1) => rcheck9_any u l w1 ((h.gr hg).gr g) hq)
  have HCL := Lib.hid (fun w1 (g : Gr W w1) => rclosed_any u l v w1 ((h.gr hg).gr g))
  have HOR := Lib.hid (fun w1 (g : Gr W w1) => rord9_any u l v w1 ((h.gr hg).gr g) hfc hl.len)
  rw [hok] at HCK
  rw [hcl] at HCL
  obtain ⟨O, hO⟩ : ∃ O, O = ordR l v := ⟨_, rfl⟩
  have HOP : Hid (∀ t ∈ O, t.ops.length ≤ 8) := Lib.hid (by rw [hO]; exact ok_ops hl)
  have HOL : Hid (O.length ≤ 65536) := Lib.hid (by rw [hO]; exact ok_len hl)
  rw [← hO] at HOR ⊢
  obtain ⟨l0, l1, l2, l3, l4, l5, l6, l7⟩ := hL.all
  clear hL hV hz hg h hq hfc hok hcl hb hl hO
  go_enter Tryz.func17, Tryz.ntmps17
  go_upto_region 1 with (fail)
  rw [← hW]
  clear hW
  go_wp2_with fail
  refine (HCK.out _ (Gr.refl _)).mono ?_
  rintro e w2 ⟨rfl, g2⟩
  have HG2 := Lib.hid g2
  clear g2 l0 l1 l2 l3 l4 l5 l6 l7
  obtain ⟨l0, l1, l2, l3, l4, l5, l6, l7⟩ := (HL.out.gr HG2.out).all
  obtain ⟨v0, v1, v2, v3, v4, v5, v6, v7⟩ := (HV.out.gr HG2.out).all
  go_wp2_with fail
  refine (HCL.out _ HG2.out).mono ?_
  rintro e w3 ⟨rfl, g3⟩
  have HG3 := Lib.hid (HG2.out.trans g3)
  clear g3 l0 l1 l2 l3 l4 l5 l6 l7 v0 v1 v2 v3 v4 v5 v6 v7
  obtain ⟨l0, l1, l2, l3, l4, l5, l6, l7⟩ := (HL.out.gr HG3.out).all
  obtain ⟨v0, v1, v2, v3, v4, v5, v6, v7⟩ := (HV.out.gr HG3.out).all
  go_wp2_with fail
  refine (HOR.out _ HG3.out).mono ?_
  rintro e w4 ⟨s, rfl, hxn, g4⟩
  have HG4 := Lib.hid (HG3.out.trans g4)
  have hx := hxn.xv
  obtain ⟨Ax, cx, hs, -⟩ := XV.gr hx (Gr.refl _)
  subst hs
  obtain ⟨W5, hW5, g5, hq5⟩ := qbox_new w4
  obtain ⟨Q, hQ⟩ : ∃ Q, Q = w4.heap.size := ⟨_, rfl⟩
  have HQW : Hid (W.heap.size ≤ Q) := Lib.hid (by rw [hQ]; exact HG4.out.size)
  have HQ4 : Hid (w4.heap.size ≤ Q) := Lib.hid (by rw [hQ]; exact Nat.le_refl _)
  rw [← hQ] at hq5
  have HP4 := Lib.hid (fun w1 (g : Gr W5 w1) => placesP_any _ O key 4 w1 ((hx.gr g5).gr g) HOP.out HOL.out)
  have HP5 := Lib.hid (fun w1 (g : Gr W5 w1) => placesP_any _ O key 5 w1 ((hx.gr g5).gr g) HOP.out HOL.out)
  have HSU := Lib.hid (fun w1 (g : Gr W5 w1) => rsum_any _ O key w1 ((hx.gr g5).gr g) HOP.out HOL.out)
  obtain ⟨nx, hnx⟩ : ∃ n, n = O.length := ⟨_, rfl⟩
  rw [← hnx] at HP4 HP5 HSU ⊢
  have HQ5 := Lib.hid hq5
  have HGW5 := Lib.hid (HG4.out.trans g5)
  have HG45 := Lib.hid g5
  clear g4 hxn hx hnx l0 l1 l2 l3 l4 l5 l6 l7 v0 v1 v2 v3 v4 v5 v6 v7 hq5 g5
  go_upto_region 10 with (fail)
  rw [← hW5, ← hQ]
  clear hW5 hQ
  go_wp2_with fail
  refine (HP4.out _ (Gr.refl _)).mono ?_
  rintro e w6 ⟨A4, c4, rfl, hp4, g6⟩
  have HG6 := Lib.hid g6
  obtain ⟨n4, hn4⟩ : ∃ n, n = (plL key 4 O).length := ⟨_, rfl⟩
  rw [← hn4] at hp4 ⊢
  have HN4 := Lib.hid hn4
  have HR40 := Lib.hid hp4
  clear g6 hn4 hp4
  go_wp2_with fail
  refine (HP5.out _ HG6.out).mono ?_
  rintro e w7 ⟨A5, c5, rfl, hp5, g7⟩
  have HG7 := Lib.hid (HG6.out.trans g7)
  obtain ⟨n5, hn5⟩ : ∃ n, n = (plL key 5 O).length := ⟨_, rfl⟩
  rw [← hn5] at hp5 ⊢
  have HR4 := Lib.hid (HR40.out.gr g7)
  have HR5 := Lib.hid hp5
  have HN5 := Lib.hid hn5
  clear g7 hp5 hn5 HR40
  obtain ⟨x, hxx⟩ : ∃ x, x = wrap64 (sumAll (plL key 1 O) - sumAll (plL key 2 O)) := ⟨_, rfl⟩
  have HE : Hid (rvR 1 start O key = ⟨wrap64 (start + x), [], false⟩) := Lib.hid (by rw [hxx]; rfl)
  rw [← hxx] at HSU
  clear hxx
  go_wp2_with fail
  refine (HSU.out _ HG7.out).mono ?_
  rintro e w8 ⟨rfl, g8⟩
  have HG8 := Lib.hid (HG7.out.trans g8)
  have HQ8 := Lib.hid (HQ5.out.gr HG8.out)
  have HW8 := Lib.hid (HGW5.out.trans HG8.out)
  clear g8
  obtain ⟨q0, q1, q2⟩ := HQ8.out.cells
  obtain ⟨qf0, qf1, qf2⟩ := HQ8.out.fz
  have hz2 := gr_obj (HW8.out) HZ.out
  have z0 : w8.cell? ⟨w.heap.size + 1 + 1, 0, none⟩ = some (.int .i64 0) := by rw [cell_of_block hz2]; rfl
  have z1 : w8.cell? ⟨w.heap.size + 1 + 1, 1, none⟩ = some (.slice none 0 0) := by rw [cell_of_block hz2]; rfl
  have z2 : w8.cell? ⟨w.heap.size + 1 + 1, 2, none⟩ = some (.bool false) := by rw [cell_of_block hz2]; rfl
  have zf0 := unfrozen_of_block hz2 0
  have zf1 := unfrozen_of_block hz2 1
  have zf2 := unfrozen_of_block hz2 2
  have hne : ¬ Q = w.heap.size + 1 + 1 := by have := HSW.out; have := HQW.out; omega
  have hne' : ¬ w.heap.size + 1 + 1 = Q := fun e => hne e.symm
  clear hz2
  go_wp2_with fail
  rw [HE.out]
  refine bodyPost_ret (v := .tuple #[.agg #[.int .i64 (wrap64 (start + x)), .slice none 0 0, .bool false], .int .i64 0]) (by simp [results, Tryz.results17, go_sem, *]) rfl ⟨_, rfl, SV.nil _, ?_⟩
  show Gr w ((((w8.setCell _ _).setCell _ _).setCell _ _).setCell _ _)
  exact ((((HG.out.trans HW8.out).setCell (by have := HSW.out; have := HQW.out; simp only []; omega) _).setCell (by simp only []; omega) _).setCell (by simp only []; omega) _).setCell (by simp only []; omega) _
end Go.Proofs.YtlihcjlonafohaaGreat
namespace Go.Proofs.YtlihcjlonafohaaGreat
open Go.RowKit Go.Joins
set_option linter.unusedSimpArgs false
set_option linter.unusedVariables false

set_option maxRecDepth 100000 in
set_option maxHeartbeats 8000000 in
theorem rvalK2 (start : Int) (u : Nat → S3) (l : LG) (v : Nat → Nat) (key : ByteArray) (w : World) (h : LV w u l) (hq : FitQ l) (hfc : FitC l) (hok : checkE l = 0) (hcl : closedB l v = true) (hb : wrap64 start = start) :
    Calls Tryz.prog 17 #[.int .i64 2, .int .i64 start, .agg (lcells u), .agg (vcells v), .string key] w fun e w' => RetR (rvR 2 start (ordR l v) key) 0 w e w' := by
  obtain ⟨W, hW, hg, hL, hV, hz⟩ := boxesVa u v w
  have HSW : Hid (w.heap.size + 1 + 1 < W.heap.size) := Lib.hid (by rw [hW]; simp)
  have HL := Lib.hid hL
  have HV := Lib.hid hV
  have HZ := Lib.hid hz
  have HG := Lib.hid hg
  have HBD := Lib.hid hb
  have hl := okL_iff.1 hok
  have HCK := Lib.hid (fun w1 (g : Gr W w1) => rcheck9_any u l w1 ((h.gr hg).gr g) hq)
  have HCL := Lib.hid (fun w1 (g : Gr W w1) => rclosed_any u l v w1 ((h.gr hg).gr g))
  have HOR := Lib.hid (fun w1 (g : Gr W w1) => rord9_any u l v w1 ((h.gr hg).gr g) hfc hl.len)
  rw [hok] at HCK
  rw [hcl] at HCL
  obtain ⟨O, hO⟩ : ∃ O, O = ordR l v := ⟨_, rfl⟩
  have HOP : Hid (∀ t ∈ O, t.ops.length ≤ 8) := Lib.hid (by rw [hO]; exact ok_ops hl)
  have HOL : Hid (O.length ≤ 65536) := Lib.hid (by rw [hO]; exact ok_len hl)
  rw [← hO] at HOR ⊢
  obtain ⟨l0, l1, l2, l3, l4, l5, l6, l7⟩ := hL.all
  clear hL hV hz hg h hq hfc hok hcl hb hl hO
  go_enter Tryz.func17, Tryz.ntmps17
  go_upto_region 1 with (fail)
  rw [← hW]
  clear hW
  go_wp2_with fail
  refine (HCK.out _ (Gr.refl _)).mono ?_
  rintro e w2 ⟨rfl, g2⟩
  have HG2 := Lib.hid g2
  clear g2 l0 l1 l2 l3 l4 l5 l6 l7
  obtain ⟨l0, l1, l2, l3, l4, l5, l6, l7⟩ := (HL.out.gr HG2.out).all
  obtain ⟨v0, v1, v2, v3, v4, v5, v6, v7⟩ := (HV.out.gr HG2.out).all
  go_wp2_with fail
  refine (HCL.out _ HG2.out).mono ?_
  rintro e w3 ⟨rfl, g3⟩
  have HG3 := Lib.hid (HG2.out.trans g3)
  clear g3 l0 l1 l2 l3 l4 l5 l6 l7 v0 v1 v2 v3 v4 v5 v6 v7
  obtain ⟨l0, l1, l2, l3, l4, l5, l6, l7⟩ := (HL.out.gr HG3.out).all
  obtain ⟨v0, v1, v2, v3, v4, v5, v6, v7⟩ := (HV.out.gr HG3.out).all
  go_wp2_with fail
  refine (HOR.out _ HG3.out).mono ?_
  rintro e w4 ⟨s, rfl, hxn, g4⟩
  have HG4 := Lib.hid (HG3.out.trans g4)
  have hx := hxn.xv
  obtain ⟨Ax, cx, hs, -⟩ := XV.gr hx (Gr.refl _)
  subst hs
  obtain ⟨W5, hW5, g5, hq5⟩ := qbox_new w4
  obtain ⟨Q, hQ⟩ : ∃ Q, Q = w4.heap.size := ⟨_, rfl⟩
  have HQW : Hid (W.heap.size ≤ Q) := Lib.hid (by rw [hQ]; exact HG4.out.size)
  have HQ4 : Hid (w4.heap.size ≤ Q) := Lib.hid (by rw [hQ]; exact Nat.le_refl _)
  rw [← hQ] at hq5
  have HP4 := Lib.hid (fun w1 (g : Gr W5 w1) => placesP_any _ O key 4 w1 ((hx.gr g5).gr g) HOP.out HOL.out)
  have HP5 := Lib.hid (fun w1 (g : Gr W5 w1) => placesP_any _ O key 5 w1 ((hx.gr g5).gr g) HOP.out HOL.out)
  have HSU := Lib.hid (fun w1 (g : Gr W5 w1) => rsum_any _ O key w1 ((hx.gr g5).gr g) HOP.out HOL.out)
  obtain ⟨nx, hnx⟩ : ∃ n, n = O.length := ⟨_, rfl⟩
  rw [← hnx] at HP4 HP5 HSU ⊢
  have HQ5 := Lib.hid hq5
  have HGW5 := Lib.hid (HG4.out.trans g5)
  have HG45 := Lib.hid g5
  clear g4 hxn hx hnx l0 l1 l2 l3 l4 l5 l6 l7 v0 v1 v2 v3 v4 v5 v6 v7 hq5 g5
  go_upto_region 10 with (fail)
  rw [← hW5, ← hQ]
  clear hW5 hQ
  go_wp2_with fail
  refine (HP4.out _ (Gr.refl _)).mono ?_
  rintro e w6 ⟨A4, c4, rfl, hp4, g6⟩
  have HG6 := Lib.hid g6
  obtain ⟨n4, hn4⟩ : ∃ n, n = (plL key 4 O).length := ⟨_, rfl⟩
  rw [← hn4] at hp4 ⊢
  have HN4 := Lib.hid hn4
  have HR40 := Lib.hid hp4
  clear g6 hn4 hp4
  go_wp2_with fail
  refine (HP5.out _ HG6.out).mono ?_
  rintro e w7 ⟨A5, c5, rfl, hp5, g7⟩
  have HG7 := Lib.hid (HG6.out.trans g7)
  obtain ⟨n5, hn5⟩ : ∃ n, n = (plL key 5 O).length := ⟨_, rfl⟩
  rw [← hn5] at hp5 ⊢
  have HR4 := Lib.hid (HR40.out.gr g7)
  have HR5 := Lib.hid hp5
  have HN5 := Lib.hid hn5
  clear g7 hp5 hn5 HR40
  obtain ⟨x, hxx⟩ : ∃ x, x = wrap64 (sumAll (plL key 1 O) - sumAll (plL key 2 O)) := ⟨_, rfl⟩
  have HE : Hid (rvR 2 start O key = ⟨wrap64 (start + x), [], false⟩) := Lib.hid (by rw [hxx]; rfl)
  rw [← hxx] at HSU
  clear hxx
  go_wp2_with fail
  refine (HSU.out _ HG7.out).mono ?_
  rintro e w8 ⟨rfl, g8⟩
  have HG8 := Lib.hid (HG7.out.trans g8)
  have HQ8 := Lib.hid (HQ5.out.gr HG8.out)
  have HW8 := Lib.hid (HGW5.out.trans HG8.out)
  clear g8
  obtain ⟨q0, q1, q2⟩ := HQ8.out.cells
  obtain ⟨qf0, qf1, qf2⟩ := HQ8.out.fz
  have hz2 := gr_obj (HW8.out) HZ.out
  have z0 : w8.cell? ⟨w.heap.size + 1 + 1, 0, none⟩ = some (.int .i64 0) := by rw [cell_of_block hz2]; rfl
  have z1 : w8.cell? ⟨w.heap.size + 1 + 1, 1, none⟩ = some (.slice none 0 0) := by rw [cell_of_block hz2]; rfl
  have z2 : w8.cell? ⟨w.heap.size + 1 + 1, 2, none⟩ = some (.bool false) := by rw [cell_of_block hz2]; rfl
  have zf0 := unfrozen_of_block hz2 0
  have zf1 := unfrozen_of_block hz2 1
  have zf2 := unfrozen_of_block hz2 2
  have hne : ¬ Q = w.heap.size + 1 + 1 := by have := HSW.out; have := HQW.out; omega
  have hne' : ¬ w.heap.size + 1 + 1 = Q := fun e => hne e.symm
  clear hz2
  go_wp2_with fail
  rw [HE.out]
  refine bodyPost_ret (v := .tuple #[.agg #[.int .i64 (wrap64 (start + x)), .slice none 0 0, .bool false], .int .i64 0]) (by simp [results, Tryz.results17, go_sem, *]) rfl ⟨_, rfl, SV.nil _, ?_⟩
  show Gr w ((((w8.setCell _ _).setCell _ _).setCell _ _).setCell _ _)
  exact ((((HG.out.trans HW8.out).setCell (by have := HSW.out; have := HQW.out; simp only []; omega) _).setCell (by simp only []; omega) _).setCell (by simp only []; omega) _).setCell (by simp only []; omega) _
end Go.Proofs.YtlihcjlonafohaaGreat
namespace Go.Proofs.YtlihcjlonafohaaGreat
open Go.RowKit Go.Joins
set_option linter.unusedSimpArgs false
set_option linter.unusedVariables false
theorem plL_cap {key : ByteArray} {kind : Int} {O : List TX} (h : ∀ t ∈ O, t.ops.length ≤ 8) (hO : O.length ≤ 65536) : (plL key kind O).length ≤ 600000 := by
  have := plTo_len key kind O h O.length
  unfold plL
  omega
theorem sv_newQ (w : World) (s : ByteArray) : ∃ W, W = w.alloc (.cells #[.string s] 9) ∧ Gr w W ∧ SV W (.slice (some ⟨w.heap.size, 0, none⟩) 1 1) [s] := by
  refine ⟨_, rfl, (Gr.refl w).alloc _, some ⟨w.heap.size, 0, none⟩, 1, rfl, Nat.le_refl _, ⟨by unfold maxLen; omega, fun e => (by cases e)⟩, fun j hj => ⟨w.heap.size, 0, rfl, ?_⟩⟩
  have hj : j < 1 := hj
  obtain rfl : j = 0 := by omega
  rw [cell_of_block (heap_alloc w #[.string s] 9)]; rfl
/-- The flag behind the first j rounds. -/
def onT (b : Bool) (P : TX × Nat → Bool) (L : List (TX × Nat)) : Nat → Bool
  | 0 => b
  | j + 1 => match L[j]? with | some x => onT b P L j || P x | none => onT b P L j
theorem onT_at {b : Bool} {P : TX × Nat → Bool} {L : List (TX × Nat)} {j : Nat} {x : TX × Nat} (h : L[j]? = some x) : onT b P L (j + 1) = (onT b P L j || P x) := by
  show (match L[j]? with | some x => _ | none => _) = _
  rw [h]
theorem onT_all (b : Bool) (P : TX × Nat → Bool) (L : List (TX × Nat)) : onT b P L L.length = (b || L.any P) := by
  have h : ∀ j, j ≤ L.length → onT b P L j = (b || (L.take j).any P) := by
    intro j
    induction j with
    | zero => intro _; simp [onT]
    | succ j ih =>
      intro hj
      have hx : L[j]? = some L[j] := List.getElem?_eq_getElem hj
      rw [onT_at hx, ih (by omega), List.take_add_one, hx, List.any_append]
      simp [Bool.or_assoc]
  rw [h _ (Nat.le_refl _), List.take_length]
def SgA (Q b off nn cc j mq cq : Nat) (Aq : Option Addr) (y : TX × Nat) (vy : Value) (yk yn : Int) (yy ye : ByteArray) (E : List ByteArray) : Nat → SpecG
  | 0 => SpecG.fix (.pointer (some ⟨Q, 1, none⟩))
  | 1 => SpecG.fix (.slice Aq mq cq)
  | 2 => SpecG.fix (.slice (some ⟨b, off, none⟩) nn cc)
  | 3 => SpecG.fix (.int .i64 (j : Int))
  | 4 => SpecG.fix (.pointer (some ⟨b, off + j * 13, none⟩))
  | 5 => SpecG.fix (.agg (pcs y.1 vy y.2))
  | 6 => SpecG.fix (.agg #[.int .i64 yk, .string yy, .string ye, .int .i64 yn])
  | 7 => SpecG.fix (.string ye)
  | 8 => SpecG.strs ((intoT ye E).length) (intoT ye E)
  | 9 => SpecG.fix (.pointer (some ⟨Q, 1, none⟩))
  | _ => SpecG.any
end Go.Proofs.YtlihcjlonafohaaGreat
