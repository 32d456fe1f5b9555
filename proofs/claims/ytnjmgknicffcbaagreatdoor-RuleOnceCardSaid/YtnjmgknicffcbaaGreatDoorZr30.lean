/- What the document's Value keeps while it walks; what it answers over the document's order. Walks: the document's Copy of logs; its rows lie in blocks of their own. What the document's rows of places answer is what the program's deeds make: elements and flags. Plain mathematics of texts cut at a byte. No program in it. -/
import Derived.Test.YtnjmgknicffcbaaGreatDoorZr29
import Derived.Test.YtnjmgknicffcbaaGreatDoorZr11
import Derived.Test.YtnjmgknicffcbaaGreatDoorZr08
import Derived.Test.YtnjmgknicffcbaaGreatDoorZr28
import Derived.Test.YtnjmgknicffcbaaGreatDoorZr13
import Derived.Test.YtnjmgknicffcbaaGreatDoorZr01
import Derived.Lib.SplitLaws
import Derived.Lib.Join
namespace Go.Proofs.YtnjmgknicffcbaaGreatDoor
open Go.RowKit Go.Joins
set_option linter.unusedSimpArgs false
set_option linter.unusedVariables false

/-- The answer's box holds these elements and this flag, and the two rows of places read on. -/
structure ST (w0 : World) (Q : Nat) (s4 : Value) (L4 : List (TX × Nat)) (s5 : Value) (L5 : List (TX × Nat)) (E : List ByteArray) (on : Bool) (w : World) : Prop where
  ex : ∃ A m c, QBox w Q 0 A m c on ∧ SV w (.slice A m c) E
  p4 : PLR w s4 L4
  p5 : PLR w s5 L5
  gr : Gr w0 w
section
variable {w0 w w' : World} {Q : Nat} {s4 s5 : Value} {L4 L5 : List (TX × Nat)} {E : List ByteArray} {on : Bool}
theorem ST.put (h : ST w0 Q s4 L4 s5 L5 E on w) (hq : w0.heap.size ≤ Q) {A : Option Addr} {m c : Nat} {E' : List ByteArray} (hv : SV w (.slice A m c) E') : ST w0 Q s4 L4 s5 L5 E' on (w.setCell ⟨Q, 1, none⟩ (.slice A m c)) := by
  obtain ⟨A0, m0, c0, h1, h2⟩ := h.ex
  have k : Kp (some Q) w (w.setCell ⟨Q, 1, none⟩ (.slice A m c)) := (Kp.refl (some Q) w).set (.inr rfl) _ _
  exact ⟨⟨A, m, c, h1.set1 A m c, hv.kq h1 k⟩, h.p4.kq h1 k, h.p5.kq h1 k, h.gr.setCell hq _⟩
theorem ST.flag (h : ST w0 Q s4 L4 s5 L5 E on w) (hq : w0.heap.size ≤ Q) (on' : Bool) : ST w0 Q s4 L4 s5 L5 E on' (w.setCell ⟨Q, 2, none⟩ (.bool on')) := by
  obtain ⟨A0, m0, c0, h1, h2⟩ := h.ex
  have k : Kp (some Q) w (w.setCell ⟨Q, 2, none⟩ (.bool on')) := (Kp.refl (some Q) w).set (.inr rfl) _ _
  exact ⟨⟨A0, m0, c0, h1.set2 on', h2.kq h1 k⟩, h.p4.kq h1 k, h.p5.kq h1 k, h.gr.setCell hq _⟩
end
end Go.Proofs.YtnjmgknicffcbaaGreatDoor
namespace Go.Proofs.YtnjmgknicffcbaaGreatDoor
open Go.RowKit Go.Joins
set_option linter.unusedSimpArgs false
set_option linter.unusedVariables false

/-- The inner rounds: of log k the first d are copied. -/
structure RdI (w : World) (u : Nat → S3) (l : LG) (k : Nat) (ur : Nat → S3) (wo : World) (d : Nat) (A : Option Addr) (c : Nat) (R : List TR) (us : Nat → S3) (wr : World) : Prop where
  a : LBox wr w.heap.size u
  z : LBox wr (w.heap.size + 1) (fun _ => ⟨none, 0, 0⟩)
  b : LBox wr (w.heap.size + 1 + 1) us
  at' : us k = ⟨A, d, c⟩
  ne : ∀ j, j ≠ k → us j = ur j
  row : wr.ownsRow wo.heap.size 47 12 (.slice A d c) d (trs R)
  tx : texts R = (l k).take d
  ops : TOn wr (w.heap.size + 3) R
  mid : Mid (w.heap.size + 3) wo wr
  gr : Gr w wr
theorem RdI.next {w wo wr w' : World} {u ur us : Nat → S3} {l : LG} {k d c : Nat} {A : Option Addr} {R : List TR} (h : RdI w u l k ur wo d A c R us wr) (g : Gr wr w') : RdI w u l k ur wo d A c R us w' :=
  ⟨h.a.gr g, h.z.gr g, h.b.gr g, h.at', h.ne, own_gr h.row g, h.tx, h.ops.mid (Mid.of_gr g), h.mid.gr g, h.gr.trans g⟩
/-- One more: the row has grown, its new slice is stored. -/
theorem RdI.more {w wo w8 w9 : World} {u ur us : Nat → S3} {l : LG} {k d c c' : Nat} {A A' : Option Addr} {R : List TR} {t : TX} {s : S3} (h : RdI w u l k ur wo d A c R us w8) (hk : k < 8) (hB : w.heap.size + 3 ≤ wo.heap.size)
    (hd : d < (l k).length) (ht : (l k)[d] = t) (hs : TOO w8 (w.heap.size + 3) s.v t.ops) (kp : w8.grownBy w9 (Value.slice A d c).ownBlock)
    (hown : w9.ownsRow wo.heap.size 47 12 (.slice A' (d + 1) c') (d + 1) (trs (R ++ [(t, s)]))) :
    RdI w u l k ur wo (d + 1) A' c' (R ++ [(t, s)]) (updS us k ⟨A', d + 1, c'⟩) (w9.setCell ⟨w.heap.size + 1 + 1, k, none⟩ (.slice A' (d + 1) c')) := by
  have hb := own_below h.row kp
  have hsz : w8.heap.size ≤ w9.heap.size := Kp.size kp
  have h89 : wo.heap.size ≤ w8.heap.size := h.mid.size
  have e0 := hb w.heap.size (by omega) h.a.lt
  have e1 := hb (w.heap.size + 1) (by omega) h.z.lt
  have e2 := hb (w.heap.size + 1 + 1) (by omega) h.b.lt
  have m9 : Mid (w.heap.size + 3) wo w9 := ⟨Nat.le_trans h.mid.size hsz, fun x hx hl => (hb x hl (by omega)).trans (h.mid.mid x hx hl)⟩
  have g9 : Gr w w9 := h.gr.grown h.row (by omega) kp
  have ms : Mid (w.heap.size + 3) w9 (w9.setCell ⟨w.heap.size + 1 + 1, k, none⟩ (.slice A' (d + 1) c')) := (Mid.refl _ _).set (.inl (by show w.heap.size + 1 + 1 < _; omega)) _
  refine ⟨(h.a.keep e0).far (by simp only []; omega) _, (h.z.keep e1).far (by simp only []; omega) _, (h.b.keep e2).set hk _ _ _, if_pos rfl, fun j hj => ?_, ?_, ?_, ?_, m9.trans ms, ?_⟩
  · show (if j = k then _ else us j) = _
    rw [if_neg hj]; exact h.ne j hj
  · exact ownsRow_setCell_below hown (by show w.heap.size + 1 + 1 < _; omega) _
  · unfold texts
    rw [List.map_append, show R.map (·.1) = (l k).take d from h.tx, List.take_add_one, List.getElem?_eq_getElem hd, ht]
    rfl
  · intro r hr
    refine own_mid ?_ ms
    rcases List.mem_append.1 hr with hr | hr
    · exact TOO.grown (h.ops r hr) h.row hB kp
    · simp only [List.mem_singleton] at hr
      subst hr
      exact TOO.grown hs h.row hB kp
  · exact g9.setCell (by show w.heap.size ≤ w.heap.size + 1 + 1; omega) _

end Go.Proofs.YtnjmgknicffcbaaGreatDoor
namespace Go.Proofs.YtnjmgknicffcbaaGreatDoor
open Go.RowKit Go.Joins
set_option linter.unusedSimpArgs false
set_option linter.unusedVariables false

theorem toD_op (x : TX × Nat) : (toD x).op = opAt x.1 x.2 := rfl
/-- The deeds of a kind, as places. -/
def plZ (key : ByteArray) (l : LG) (v : Nat → Nat) (k : Int) : List (TX × Nat) := (dAll key l v 8).filter fun x => decide ((opAt x.1 x.2).kind = k)
theorem kindF_Z (key : ByteArray) (l : LG) (v : Nat → Nat) (k : Int) : kindF k ((dAll key l v 8).map toD) = (plZ key l v k).map toD := by
  unfold kindF plZ
  rw [List.filter_map]
  rfl
theorem plZ_mem {key : ByteArray} {l : LG} {v : Nat → Nat} {k : Int} {x : TX × Nat} : x ∈ plZ key l v k ↔ x ∈ plL key k (ordR l v) := by
  unfold plZ
  rw [List.mem_filter, dAll_mem, plL_mem, ordR_mem]
  unfold InCut isPl
  constructor
  · rintro ⟨⟨⟨i, c, hi, hc, h1⟩, o, ho, he⟩, hk⟩
    refine ⟨⟨i, c, hi, hc, h1⟩, o, ho, ?_⟩
    rw [opAt_some ho] at hk
    rw [he, hk]; rfl
  · rintro ⟨⟨i, c, hi, hc, h1⟩, o, ho, he⟩
    rw [Bool.and_eq_true] at he
    refine ⟨⟨⟨i, c, hi, hc, h1⟩, o, ho, he.1⟩, ?_⟩
    rw [opAt_some ho]
    exact he.2
/-- What a place of the cut is. -/
theorem plL_fact {key : ByteArray} {k : Int} {l : LG} {v : Nat → Nat} {x : TX × Nat} (hl : OkL l) (h : x ∈ plL key k (ordR l v)) :
    (∃ i c, i < 8 ∧ (l i)[c]? = some x.1 ∧ x.1.origin = (i : Int) ∧ x.1.seq = c + 1 ∧ x.1.deps i = c) ∧ x.2 < x.1.ops.length ∧ (opAt x.1 x.2).kind = k ∧ (opAt x.1 x.2).key = key := by
  obtain ⟨h1, o, ho, he⟩ := plL_mem.1 h
  obtain ⟨i, c, hi, -, hc⟩ := ordR_mem.1 h1
  obtain ⟨hok, h2, h3, -⟩ := hl.tx i c x.1 hi hc
  unfold isPl at he
  rw [Bool.and_eq_true] at he
  refine ⟨⟨i, c, hi, hc, h2, h3, ?_⟩, (List.getElem?_eq_some_iff.1 ho).1, ?_, ?_⟩
  · have := hok.1.2.2.2.2
    rw [h2, h3] at this
    simpa using this
  · rw [opAt_some ho]; exact of_decide_eq_true he.2
  · rw [opAt_some ho]; exact eqS_iff.1 he.1
theorem same_tx {key : ByteArray} {k k' : Int} {l : LG} {v : Nat → Nat} {x y : TX × Nat} (hl : OkL l) (hx : x ∈ plL key k (ordR l v)) (hy : y ∈ plL key k' (ordR l v)) (h1 : x.1.origin = y.1.origin) (h2 : x.1.seq = y.1.seq) : x.1 = y.1 := by
  obtain ⟨⟨i, c, hi, hc, ho, hs, -⟩, -⟩ := plL_fact hl hx
  obtain ⟨⟨i', c', hi', hc', ho', hs', -⟩, -⟩ := plL_fact hl hy
  have e1 : i = i' := by omega
  have e2 : c = c' := by omega
  subst e1 e2
  rw [hc] at hc'
  exact Option.some.inj hc'
/-- What the first j deeds saw. -/
theorem seenF_has {a : ByteArray} {o : Int} {n : Nat} (L : List DD) : ∀ j, j ≤ L.length → (hasB (seenF L j a) o n = true ↔ ∃ d ∈ L.take j, aboutT d.op = a ∧ hasB d.t.deps o n = true)
  | 0, _ => by
    simp only [List.take_zero, List.not_mem_nil, false_and, exists_false, iff_false]
    unfold hasB seenF
    simp
    omega
  | j + 1, hj => by
    have ih := seenF_has (a := a) (o := o) (n := n) L j (by omega)
    have hd : L[j]? = some L[j] := List.getElem?_eq_getElem (by omega)
    rw [seenF_at hd, List.take_add_one, hd]
    simp only []
    by_cases e : a = aboutT L[j].op
    · rw [if_pos e, ← e]
      have hj2 : hasB (jn (seenF L j a) L[j].t.deps) o n = true ↔ hasB (seenF L j a) o n = true ∨ hasB L[j].t.deps o n = true := by
        unfold hasB jn
        simp only [Bool.and_eq_true, decide_eq_true_eq]
        omega
      rw [hj2, ih]
      constructor
      · rintro (⟨d, h1, h2, h3⟩ | h)
        · exact ⟨d, List.mem_append_left _ h1, h2, h3⟩
        · exact ⟨L[j], List.mem_append_right _ (by simp), e.symm, h⟩
      · rintro ⟨d, h1, h2, h3⟩
        rcases List.mem_append.1 h1 with h1 | h1
        · exact .inl ⟨d, h1, h2, h3⟩
        · have : d = L[j] := by simpa using h1
          rw [this] at h3
          exact .inr h3
    · rw [if_neg e, ih]
      constructor
      · rintro ⟨d, h1, h2, h3⟩
        exact ⟨d, List.mem_append_left _ h1, h2, h3⟩
      · rintro ⟨d, h1, h2, h3⟩
        rcases List.mem_append.1 h1 with h1 | h1
        · exact ⟨d, h1, h2, h3⟩
        · have : d = L[j] := by simpa using h1
          rw [this] at h2
          exact absurd h2.symm e
/-- The program's question and the document's. -/
theorem uns_seen {key : ByteArray} {l : LG} {v : Nat → Nat} (hl : OkL l) {kd sk : Int} {x : TX × Nat} (hx : x ∈ plL key kd (ordR l v)) :
    unsD (seenF (kindF sk ((dAll key l v 8).map toD)) (kindF sk ((dAll key l v 8).map toD)).length) sk (toD x) = true ↔
      ∃ y ∈ plL key sk (ordR l v), aboutT (opAt y.1 y.2) = aboutT (opAt x.1 x.2) ∧ seenP x y = true := by
  obtain ⟨⟨i, c, hi, hc, ho, hs, hdep⟩, hxi, hxk, hxkey⟩ := plL_fact hl hx
  unfold unsD
  rw [Bool.or_eq_true, seenF_has _ _ (Nat.le_refl _), List.take_length, kindF_Z]
  have hdd : x.1.deps x.1.origin.toNat = c := by rw [ho]; simpa using hdep
  have hh : decide (x.1.seq ≤ x.1.deps x.1.origin.toNat) = false := decide_eq_false (by rw [hdd, hs]; omega)
  have self : hasB x.1.deps x.1.origin x.1.seq = false := by
    unfold hasB
    rw [hh, Bool.and_false]
  constructor
  · rintro (⟨d, h1, h2, h3⟩ | h)
    · obtain ⟨y, hy, rfl⟩ := List.mem_map.1 h1
      rw [plZ_mem] at hy
      refine ⟨y, hy, h2, ?_⟩
      unfold seenP
      by_cases hs2 : x.1.origin = y.1.origin ∧ x.1.seq = y.1.seq
      · have e := same_tx hl hx hy hs2.1 hs2.2
        have h3 : hasB y.1.deps x.1.origin x.1.seq = true := h3
        rw [← e, self] at h3
        cases h3
      · rw [if_neg hs2]
        exact h3
    · unfold withinD at h
      rw [List.any_eq_true] at h
      obtain ⟨p, hp, hse⟩ := h
      obtain ⟨m, hm⟩ := List.mem_iff_getElem?.1 hp
      have hm : x.1.ops[x.2 + 1 + m]? = some p := by rw [← hm, List.getElem?_drop]; rfl
      unfold seesB at hse
      simp only [Bool.and_eq_true, decide_eq_true_eq, eqS_iff] at hse
      refine ⟨(x.1, x.2 + 1 + m), plL_mem.2 ⟨(plL_mem.1 hx).1, p, hm, ?_⟩, ?_, ?_⟩
      · unfold isPl
        rw [hse.2.1]
        show (eqS (opAt x.1 x.2).key key && _) = true
        rw [hxkey, eqS_self, hse.1]
        simp
      · show aboutT (opAt x.1 (x.2 + 1 + m)) = _
        rw [opAt_some hm]
        exact hse.2.2
      · unfold seenP
        rw [if_pos ⟨rfl, rfl⟩]
        exact decide_eq_true (by show x.2 < x.2 + 1 + m; omega)
  · rintro ⟨y, hy, ha, hse⟩
    unfold seenP at hse
    by_cases hs2 : x.1.origin = y.1.origin ∧ x.1.seq = y.1.seq
    · rw [if_pos hs2] at hse
      have hlt := of_decide_eq_true hse
      have e := same_tx hl hx hy hs2.1 hs2.2
      obtain ⟨-, hyi, hyk, hykey⟩ := plL_fact hl hy
      refine .inr ?_
      unfold withinD
      rw [List.any_eq_true]
      have hyo : x.1.ops[y.2]? = some (opAt y.1 y.2) := by
        rw [e, List.getElem?_eq_getElem hyi, opAt_some (List.getElem?_eq_getElem hyi)]
      refine ⟨opAt y.1 y.2, List.mem_iff_getElem?.2 ⟨y.2 - (x.2 + 1), ?_⟩, ?_⟩
      · show (x.1.ops.drop (x.2 + 1))[y.2 - (x.2 + 1)]? = _
        rw [List.getElem?_drop, show x.2 + 1 + (y.2 - (x.2 + 1)) = y.2 by omega]
        exact hyo
      · unfold seesB
        rw [toD_op]
        simp only [Bool.and_eq_true, decide_eq_true_eq, eqS_iff]
        exact ⟨hyk, by rw [hykey, hxkey], ha⟩
    · rw [if_neg hs2] at hse
      exact .inl ⟨toD y, List.mem_map.2 ⟨y, plZ_mem.2 hy, rfl⟩, ha, hse⟩
theorem about_el {o : TO} (h : ¬ o.kind = 6) : aboutT o = o.elem := if_neg h
theorem uns_ans {key : ByteArray} {l : LG} {v : Nat → Nat} (hl : OkL l) {kd sk : Int} (h1 : ¬ kd = 6) (h2 : ¬ sk = 6) {x : TX × Nat} (hx : x ∈ plL key kd (ordR l v)) :
    unsD (seenF (kindF sk ((dAll key l v 8).map toD)) (kindF sk ((dAll key l v 8).map toD)).length) sk (toD x) = ansB x (plL key sk (ordR l v)) := by
  rw [Bool.eq_iff_iff, uns_seen hl hx]
  unfold ansB
  rw [List.any_eq_true]
  have hxk := (plL_fact hl hx).2.2.1
  constructor
  · rintro ⟨y, hy, ha, hs⟩
    have hyk := (plL_fact hl hy).2.2.1
    rw [about_el (o := opAt x.1 x.2) (by rw [hxk]; exact h1), about_el (o := opAt y.1 y.2) (by rw [hyk]; exact h2)] at ha
    exact ⟨y, hy, by rw [hs, Bool.and_true]; exact eqS_iff.2 ha⟩
  · rintro ⟨y, hy, hb⟩
    rw [Bool.and_eq_true] at hb
    have hyk := (plL_fact hl hy).2.2.1
    refine ⟨y, hy, ?_, hb.2⟩
    rw [about_el (o := opAt x.1 x.2) (by rw [hxk]; exact h1), about_el (o := opAt y.1 y.2) (by rw [hyk]; exact h2)]
    exact eqS_iff.1 hb.1
theorem unsL_Z {key : ByteArray} {l : LG} {v : Nat → Nat} {kd sk : Int} {P : TX × Nat → Bool} (h : ∀ x ∈ plL key kd (ordR l v), unsD (seenF (kindF sk ((dAll key l v 8).map toD)) (kindF sk ((dAll key l v 8).map toD)).length) sk (toD x) = P x) {s : ByteArray} :
    s ∈ elemsD (unsL kd sk ((dAll key l v 8).map toD)) ↔ ∃ x ∈ plL key kd (ordR l v), P x = false ∧ elP x = s := by
  unfold elemsD unsL
  rw [List.mem_map]
  constructor
  · rintro ⟨d, hd, he⟩
    rw [List.mem_filter, kindF_Z] at hd
    obtain ⟨x, hx, rfl⟩ := List.mem_map.1 hd.1
    rw [plZ_mem] at hx
    refine ⟨x, hx, ?_, he⟩
    have := hd.2
    rw [h x hx] at this
    simpa using this
  · rintro ⟨x, hx, hp, he⟩
    refine ⟨toD x, List.mem_filter.2 ⟨?_, ?_⟩, he⟩
    · rw [kindF_Z]
      exact List.mem_map.2 ⟨x, plZ_mem.2 hx, rfl⟩
    · rw [h x hx, hp]; rfl
theorem on_same {key : ByteArray} {l : LG} {v : Nat → Nat} (hl : OkL l) (start : Int) :
    onB start ((dAll key l v 8).map toD) = ((!decide (start = 0) && decide ((plL key 8 (ordR l v)).length = 0)) || (plL key 7 (ordR l v)).any (fun x => !ansB x (plL key 8 (ordR l v)))) := by
  have h8 : decide ((kindF 8 ((dAll key l v 8).map toD)).length = 0) = decide ((plL key 8 (ordR l v)).length = 0) := by
    have : (kindF 8 ((dAll key l v 8).map toD)).length = 0 ↔ (plL key 8 (ordR l v)).length = 0 := by
      rw [kindF_Z, List.length_map]
      constructor
      · intro h
        have h := List.length_eq_zero_iff.1 h
        refine List.length_eq_zero_iff.2 (List.eq_nil_iff_forall_not_mem.2 fun x hx => ?_)
        rw [← plZ_mem, h] at hx
        cases hx
      · intro h
        have h := List.length_eq_zero_iff.1 h
        refine List.length_eq_zero_iff.2 (List.eq_nil_iff_forall_not_mem.2 fun x hx => ?_)
        rw [plZ_mem, h] at hx
        cases hx
    simp only [this]
  have h7 : decide (0 < (unsL 7 8 ((dAll key l v 8).map toD)).length) = (plL key 7 (ordR l v)).any (fun x => !ansB x (plL key 8 (ordR l v))) := by
    rw [Bool.eq_iff_iff, decide_eq_true_eq, List.any_eq_true, List.length_pos_iff_exists_mem]
    constructor
    · rintro ⟨d, hd⟩
      unfold unsL at hd
      rw [List.mem_filter] at hd
      have h1 := hd.1
      rw [kindF_Z] at h1
      obtain ⟨x, hx, rfl⟩ := List.mem_map.1 h1
      rw [plZ_mem] at hx
      refine ⟨x, hx, ?_⟩
      rw [← uns_ans hl (by decide) (by decide) hx]
      exact hd.2
    · rintro ⟨x, hx, ha⟩
      refine ⟨toD x, ?_⟩
      unfold unsL
      rw [List.mem_filter]
      refine ⟨?_, ?_⟩
      · rw [kindF_Z]; exact List.mem_map.2 ⟨x, plZ_mem.2 hx, rfl⟩
      · rw [uns_ans hl (by decide) (by decide) hx]; exact ha
  unfold onB
  rw [h8, h7, Bool.or_comm]
  congr 2
  by_cases h : start = 0 <;> simp [h]
end Go.Proofs.YtnjmgknicffcbaaGreatDoor
namespace Go.Proofs.YtnjmgknicffcbaaGreatDoor.PV

/-- The pieces of a text between the bytes c. -/
def cutL (c : UInt8) (l : List UInt8) : List (List UInt8) := Lib.split l [c]
/-- The same over strings. -/
def pieces (c : UInt8) (s : ByteArray) : List ByteArray := Lib.splitB ⟨#[c]⟩ 0 (Lib.countB s ⟨#[c]⟩) s
theorem pieces_data (c : UInt8) (s : ByteArray) : (pieces c s).map (·.data.toList) = cutL c s.data.toList := by
  unfold pieces cutL Lib.split
  exact Lib.splitB_data _ _ _ _
theorem pieces_len (c : UInt8) (s : ByteArray) : (pieces c s).length = Lib.countB s ⟨#[c]⟩ + 1 := Lib.splitB_all ⟨#[c]⟩ (Nat.le_refl _) 0 _ s rfl
theorem of_data {L : List ByteArray} {M : List (List UInt8)} (h : L.map (·.data.toList) = M) : L = M.map (fun l => ⟨l.toArray⟩) := by
  rw [← h, List.map_map]
  conv => lhs; rw [← List.map_id L]
  refine List.map_congr_left fun s _ => ?_
  cases s with
  | mk d => simp
theorem pieces_eq (c : UInt8) (s : ByteArray) : pieces c s = (cutL c s.data.toList).map (fun l => ⟨l.toArray⟩) := of_data (pieces_data c s)
theorem pieces_size (c : UInt8) (s : ByteArray) : (pieces c s).length ≤ s.size + 1 := by
  rw [pieces_len]
  have := Lib.countB_le ⟨#[c]⟩ (Nat.le_refl _) s.size s (Nat.le_refl _)
  omega
theorem splitB_le (sep : ByteArray) (save : Nat) : ∀ (k : Nat) (s : ByteArray), ∀ x ∈ Lib.splitB sep save k s, x.size ≤ s.size
  | 0, s, x, hx => by rw [Lib.splitB_zero] at hx; rw [List.mem_singleton.1 hx]; exact Nat.le_refl _
  | k + 1, s, x, hx => by
    unfold Lib.splitB at hx
    split at hx
    · rw [List.mem_singleton.1 hx]; exact Nat.le_refl _
    · rcases List.mem_cons.1 hx with rfl | hx
      · rw [ByteArray.size_extract]; omega
      · have := splitB_le sep save k _ x hx
        rw [ByteArray.size_extract] at this
        omega
theorem pieces_le (c : UInt8) (s : ByteArray) : ∀ x ∈ pieces c s, x.size ≤ s.size := splitB_le _ _ _ _
end Go.Proofs.YtnjmgknicffcbaaGreatDoor.PV
