/- Walks: the document's Copy of logs. Join: its answer (joinR); walks: the document's Join. Owned logs outlive what is stored into boxes; the beginnings of logs, walked; what a region of such calls leaves. Walks: the program's needsOf. Walks: the program's Close. -/
import Derived.Test.YtnjmgknicffcbaaGreatDoorZb34
import Derived.Test.YtnjmgknicffcbaaGreatDoorZb27
import Derived.Test.YtnjmgknicffcbaaGreatDoorZb35
import Derived.Test.YtnjmgknicffcbaaGreatDoorZb22
import Derived.Test.YtnjmgknicffcbaaGreatDoorZb25
import Derived.Deep.LoopGhost
namespace Go.Proofs.YtnjmgknicffcbaaGreatDoor
open Go.RowKit Go.Joins
set_option linter.unusedSimpArgs false
set_option linter.unusedVariables false

/-- What lies below an owned row stays where it grows. -/
theorem own_below {w w' : World} {B size n : Nat} {ty : TypeId} {v : Value} {xs : List Value} (ho : w.ownsRow B ty size v n xs) (k : w.grownBy w' v.ownBlock) : ∀ x, x < B → x < w.heap.size → w'.heap[x]? = w.heap[x]? :=
  fun x hx hl => (show Kp v.ownBlock w w' from k).5 x hl (fun e => by have := ho.lt x e.symm; omega)
theorem Gr.grown {w0 w w' : World} {B size n : Nat} {ty : TypeId} {v : Value} {xs : List Value} (h : Gr w0 w) (ho : w.ownsRow B ty size v n xs) (hB : w0.heap.size ≤ B) (k : w.grownBy w' v.ownBlock) : Gr w0 w' :=
  ⟨(show Kp _ w w' from k).1.trans h.os, (show Kp _ w w' from k).2.trans h.tape, (show Kp _ w w' from k).3.trans h.output, Nat.le_trans h.size (show Kp _ w w' from k).size, fun x hx => (own_below ho k x (by omega) (Nat.lt_of_lt_of_le hx h.size)).trans (h.block x hx)⟩
theorem TOO.grown {w w' : World} {B B' n c : Nat} {A : Option Addr} {xs : List Value} {v : Value} {ops : List TO} (hv : TOO w B' v ops) (ho : w.ownsRow B 47 12 (.slice A n c) n xs) (hB : B' ≤ B) (k : w.grownBy w' (Value.slice A n c).ownBlock) : TOO w' B' v ops := by
  cases A with
  | none => exact World.ownsRow.kept hv k (Classical.em _)
  | some p => exact World.ownsRow.kept hv k (.inr (own_types (own_le ho hB) hv (by decide) (b := p.block) rfl))

/-- The inner rounds: of log k the first d are copied. -/
structure RcI (w : World) (u : Nat → S3) (l : LG) (k : Nat) (ur : Nat → S3) (wo : World) (d : Nat) (A : Option Addr) (c : Nat) (R : List TR) (us : Nat → S3) (wr : World) : Prop where
  a : LBox wr w.heap.size u
  z : LBox wr (w.heap.size + 1) (fun _ => ⟨none, 0, 0⟩)
  b : LBox wr (w.heap.size + 1 + 1) us
  at' : us k = ⟨A, d, c⟩
  ne : ∀ j, j ≠ k → us j = ur j
  row : wr.ownsRow wo.heap.size 47 12 (.slice A d c) d (trs R)
  tx : texts R = (l k).take d
  ops : TOn wr (w.heap.size + 3) R
  mid : Mid (w.heap.size + 3) wo wr
  gr : Gr w wr
theorem RcI.next {w wo wr w' : World} {u ur us : Nat → S3} {l : LG} {k d c : Nat} {A : Option Addr} {R : List TR} (h : RcI w u l k ur wo d A c R us wr) (g : Gr wr w') : RcI w u l k ur wo d A c R us w' :=
  ⟨h.a.gr g, h.z.gr g, h.b.gr g, h.at', h.ne, own_gr h.row g, h.tx, h.ops.mid (Mid.of_gr g), h.mid.gr g, h.gr.trans g⟩
theorem LBox.keep {w w' : World} {b : Nat} {u : Nat → S3} (h : LBox w b u) (e : w'.heap[b]? = w.heap[b]?) : LBox w' b u := ⟨by rw [e]; exact h.box⟩
theorem LBox.lt {w : World} {b : Nat} {u : Nat → S3} (h : LBox w b u) : b < w.heap.size := (Array.getElem?_eq_some_iff.1 h.box).1
/-- One more: the row has grown, its new slice is stored. -/
theorem RcI.more {w wo w8 w9 : World} {u ur us : Nat → S3} {l : LG} {k d c c' : Nat} {A A' : Option Addr} {R : List TR} {t : TX} {s : S3} (h : RcI w u l k ur wo d A c R us w8) (hk : k < 8) (hB : w.heap.size + 3 ≤ wo.heap.size)
    (hd : d < (l k).length) (ht : (l k)[d] = t) (hs : TOO w8 (w.heap.size + 3) s.v t.ops) (kp : w8.grownBy w9 (Value.slice A d c).ownBlock)
    (hown : w9.ownsRow wo.heap.size 47 12 (.slice A' (d + 1) c') (d + 1) (trs (R ++ [(t, s)]))) :
    RcI w u l k ur wo (d + 1) A' c' (R ++ [(t, s)]) (updS us k ⟨A', d + 1, c'⟩) (w9.setCell ⟨w.heap.size + 1 + 1, k, none⟩ (.slice A' (d + 1) c')) := by
  have hb := own_below h.row kp
  have hsz : w8.heap.size ≤ w9.heap.size := Kp.size kp
  have h89 : wo.heap.size ≤ w8.heap.size := h.mid.size
  have e0 := hb w.heap.size (by omega) h.a.lt
  have e1 := hb (w.heap.size + 1) (by omega) h.z.lt
  have e2 := hb (w.heap.size + 1 + 1) (by omega) h.b.lt
  have m9 : Mid (w.heap.size + 3) wo w9 := ⟨Nat.le_trans h.mid.size hsz, fun x hx hl => (hb x hl (by omega)).trans (h.mid.mid x hx hl)⟩
  have g9 : Gr w w9 := h.gr.grown h.row (by omega) kp
  have ms : Mid (w.heap.size + 3) w9 (w9.setCell ⟨w.heap.size + 1 + 1, k, none⟩ (.slice A' (d + 1) c')) := (Mid.refl _ _).set (.inl (by show w.heap.size + 1 + 1 < _; omega)) _
  refine ⟨(h.a.keep e0).far (by simp only []; omega) _, (h.z.keep e1).far (by simp only []; omega) _, (h.b.keep e2).set hk _ _ _, if_pos rfl, fun j hj => ?_, ?_, ?_, ?_, m9.trans ms, ?_⟩
  · show (if j = k then _ else us j) = _
    rw [if_neg hj]; exact h.ne j hj
  · exact ownsRow_setCell_below hown (by show w.heap.size + 1 + 1 < _; omega) _
  · unfold texts
    rw [List.map_append, show R.map (·.1) = (l k).take d from h.tx, List.take_add_one, List.getElem?_eq_getElem hd, ht]
    rfl
  · intro r hr
    refine own_mid ?_ ms
    rcases List.mem_append.1 hr with hr | hr
    · exact TOO.grown (h.ops r hr) h.row hB kp
    · simp only [List.mem_singleton] at hr
      subst hr
      exact TOO.grown hs h.row hB kp
  · exact g9.setCell (by show w.heap.size ≤ w.heap.size + 1 + 1; omega) _

end Go.Proofs.YtnjmgknicffcbaaGreatDoor
namespace Go.Proofs.YtnjmgknicffcbaaGreatDoor
open Go.RowKit Go.Joins
set_option linter.unusedSimpArgs false
set_option linter.unusedVariables false

theorem XV.take {w : World} {A : Option Addr} {n c k : Nat} {L : List TX} (h : XV w (.slice A n c) L) (hk : k ≤ n) : XV w (.slice A k c) (L.take k) := by
  obtain ⟨A', c', hv, h1, h2, h3⟩ := h
  injection hv with e1 e2 e3
  subst e1 e2 e3
  have hl : (L.take k).length = k := by rw [List.length_take]; omega
  refine ⟨A, c, by rw [hl], by omega, h2, fun j hj => ?_⟩
  obtain ⟨b, off, ha, hc⟩ := h3 j (by omega)
  exact ⟨b, off, ha, by rw [List.getElem_take]; exact hc⟩
/-- What Join's rounds leave: of the first k logs the longer one stands in the answer. -/
structure JrR (w : World) (u v : Nat → S3) (a b : LG) (P : Nat) (k : Nat) (us : Nat → S3) (wr : World) : Prop where
  xa : LBox wr w.heap.size u
  xb : LBox wr (w.heap.size + 1) v
  xz : LBox wr (w.heap.size + 1 + 1) Z3
  xo : LBox wr P us
  lv : ∀ j, j < k → us j = if (a j).length < (b j).length then v j else u j
  ok : ∀ j, j < k → sameL ((a j).take (b j).length) ((b j).take (a j).length) = true
  gr : Gr w wr
theorem JrR.next {w wr w' : World} {u v us : Nat → S3} {a b : LG} {P k : Nat} (h : JrR w u v a b P k us wr) (g : Gr wr w') : JrR w u v a b P k us w' :=
  ⟨h.xa.gr g, h.xb.gr g, h.xz.gr g, h.xo.gr g, h.lv, h.ok, h.gr.trans g⟩
theorem JrR.put {w wr : World} {u v us : Nat → S3} {a b : LG} {P k : Nat} (h : JrR w u v a b P k us wr) (hP : w.heap.size + 3 ≤ P) {j : Nat} (hj : k ≤ j) (h8 : j < 8) (A : Option Addr) (n c : Nat) : JrR w u v a b P k (updS us j ⟨A, n, c⟩) (wr.setCell ⟨P, j, none⟩ (.slice A n c)) :=
  ⟨h.xa.far (by simp only []; omega) _, h.xb.far (by simp only []; omega) _, h.xz.far (by simp only []; omega) _, h.xo.set h8 _ _ _, fun i hi => by
    show (if i = j then _ else us i) = _
    rw [if_neg (by omega)]; exact h.lv i hi, h.ok, h.gr.setCell (by show w.heap.size ≤ P; omega) _⟩
theorem JrR.more {w wr : World} {u v us : Nat → S3} {a b : LG} {P k : Nat} (h : JrR w u v a b P k us wr) (e : us k = if (a k).length < (b k).length then v k else u k) (hs : sameL ((a k).take (b k).length) ((b k).take (a k).length) = true) : JrR w u v a b P (k + 1) us wr :=
  ⟨h.xa, h.xb, h.xz, h.xo, fun j hj => by
    by_cases q : j = k
    · rw [q]; exact e
    · exact h.lv j (by omega), fun j hj => by
    by_cases q : j = k
    · rw [q]; exact hs
    · exact h.ok j (by omega), h.gr⟩
theorem JrR.end {w wr : World} {u v us : Nat → S3} {a b : LG} {P : Nat} (h : JrR w u v a b P 8 us wr) (ha : LV w u a) (hb : LV w v b) : LV wr us (jnL a b) := fun i hi => by
  rw [h.lv i hi]
  unfold jnL
  by_cases e : (a i).length < (b i).length
  · rw [if_pos e, if_pos e]; exact (hb i hi).gr h.gr
  · rw [if_neg e, if_neg e]; exact (ha i hi).gr h.gr

end Go.Proofs.YtnjmgknicffcbaaGreatDoor
namespace Go.Proofs.YtnjmgknicffcbaaGreatDoor
open Go.RowKit Go.Joins
set_option linter.unusedSimpArgs false
set_option linter.unusedVariables false

/-- The types of boxes: all but transactions and operations. -/
def btL (t : TypeId) : Bool := !(t == 47 || t == 52)
theorem XN.keeps {w w' : World} {B : Nat} {v : Value} {L : List TX} (h : XN w B v L) (k : Keeps btL w w') : XN w' B v L := by
  obtain ⟨R, h1, h2, h3⟩ := h
  exact ⟨R, h1, own_keeps h2 (by decide) k, fun r hr => own_keeps (h3 r hr) (by decide) k⟩
theorem LN.keeps {w w' : World} {B : Nat} {u : Nat → S3} {l : LG} (h : LN w B u l) (k : Keeps btL w w') : LN w' B u l := fun i hi => (h i hi).keeps k
theorem LN.le {w : World} {B B' : Nat} {u : Nat → S3} {l : LG} (h : LN w B u l) (hb : B' ≤ B) : LN w B' u l := fun i hi => (h i hi).le hb
theorem trs_take (R : List TR) (k : Nat) : (trs R).take (k * 12) = trs (R.take k) := rows_take trcells 12 (fun _ => rfl) R k
theorem XN.take {w : World} {B n c k : Nat} {A : Option Addr} {L : List TX} (h : XN w B (.slice A n c) L) (hk : k ≤ n) : XN w B (.slice A k c) (L.take k) := by
  obtain ⟨R, h1, h2, h3⟩ := h
  have h4 : w.ownsRow B 47 12 (.slice A n c) R.length (trs R) := h2
  obtain ⟨A', c', hv, -, -⟩ := own_form h4
  injection hv with e1 e2 e3
  subst e1 e2 e3
  rcases h4.2 with ⟨hh, h0⟩ | ⟨g, cap, cur, hh, hb, hg, hr⟩
  · injection hh with q1 q2 q3
    subst q1 q3
    obtain rfl : k = 0 := by omega
    exact ⟨[], by simp [texts], World.ownsRow_nil w B _ _, fun r hr => by cases hr⟩
  · injection hh with q1 q2 q3
    subst q1
    have h5 := own_prefix h4 hk
    rw [trs_take] at h5
    refine ⟨R.take k, ?_, ?_, fun r hr => h3 r (List.mem_of_mem_take hr)⟩
    · rw [← h1]; unfold texts; rw [List.map_take]
    · show w.ownsRow B _ 12 _ (R.take k).length _
      rw [List.length_take, Nat.min_eq_left hk]
      exact h5
theorem setCell_keeps {bt : TypeId → Bool} {w : World} {P : Nat} {z : Array Value} {t : TypeId} {fr : Nat × Nat} (h : w.heap[P]? = some (.cells z t fr)) (ht : bt t = true) (i : Nat) (v : Value) : Keeps bt w (w.setCell ⟨P, i, none⟩ v) := putCells_keeps h ht [v] i
/-- Of the first k logs the slices are cut. -/
def cutS (u : Nat → S3) (v : Nat → Nat) (k : Nat) : Nat → S3 := fun j => if j < k then ⟨(u j).a, v j, (u j).c⟩ else u j
theorem cutS_next (u : Nat → S3) (v : Nat → Nat) (k : Nat) : updS (cutS u v k) k ⟨(u k).a, v k, (u k).c⟩ = cutS u v (k + 1) := by
  funext j
  unfold updS cutS
  by_cases e : j = k
  · subst e; rw [if_pos rfl, if_pos (by omega)]
  · rw [if_neg e]
    by_cases q : j < k
    · rw [if_pos q, if_pos (by omega)]
    · rw [if_neg q, if_neg (by omega)]
/-- What the rounds of first leave. -/
structure FstR (w W : World) (v : Nat → Nat) (P B : Nat) (uk : Nat → S3) (l : LG) (k : Nat) (wr : World) : Prop where
  xo : LBox wr P (cutS uk v k)
  xz : LBox wr (w.heap.size + 1 + 1) Z3
  xv : VBox wr (w.heap.size + 1) v
  ln : LN wr B uk l
  gr : Gr W wr
theorem FstR.next {w W : World} {v : Nat → Nat} {P B : Nat} {uk : Nat → S3} {l : LG} {k : Nat} {wr w' : World} (h : FstR w W v P B uk l k wr) (g : Gr wr w') : FstR w W v P B uk l k w' :=
  ⟨h.xo.gr g, h.xz.gr g, h.xv.gr g, h.ln.keeps (Keeps.of_gr g), h.gr.trans g⟩
theorem FstR.more {w W : World} {v : Nat → Nat} {P B : Nat} {uk : Nat → S3} {l : LG} {k : Nat} {wr : World} (h : FstR w W v P B uk l k wr) (hP : w.heap.size + 3 ≤ P) (hW : W.heap.size = w.heap.size + 3) (hk : k < 8) : FstR w W v P B uk l (k + 1) (wr.setCell ⟨P, k, none⟩ (.slice (uk k).a (v k) (uk k).c)) :=
  ⟨by rw [← cutS_next]; exact h.xo.set hk _ _ _, h.xz.far (by simp only []; omega) _, h.xv.far (by simp only []; omega) _, h.ln.keeps (setCell_keeps h.xo.box (by decide) _ _), h.gr.setCell (by rw [hW]; simp only []; omega) _⟩
/-- The values of a region of such calls: plain ones, owned logs, owned logs beside an error's number. -/
structure QL (F : Nat → Option Value) (G : Nat → Option LG) (J : Nat → Option (LG × Nat)) (B : Nat) (k : Nat) (w : World) (y : Value) : Prop where
  f : ∀ v, F k = some v → y = v
  g : ∀ L, G k = some L → ∃ u, y = .agg (lcells u) ∧ LN w B u L
  j : ∀ L, J k = some L → ∃ u, y = .tuple #[.agg (lcells u), .int .i64 (L.2 : Int)] ∧ LN w B u L.1
theorem QL.st {F : Nat → Option Value} {G : Nat → Option LG} {J : Nat → Option (LG × Nat)} {B : Nat} : ∀ k y w1 w2, QL F G J B k w1 y → Keeps btL w1 w2 → QL F G J B k w2 y := fun k y w1 w2 h kp =>
  ⟨h.f, fun L hL => by obtain ⟨u, q1, q2⟩ := h.g L hL; exact ⟨u, q1, q2.keeps kp⟩, fun L hL => by obtain ⟨u, q1, q2⟩ := h.j L hL; exact ⟨u, q1, q2.keeps kp⟩⟩
theorem qlF {F : Nat → Option Value} {G : Nat → Option LG} {J : Nat → Option (LG × Nat)} {B k : Nat} {w : World} {v : Value} (h1 : F k = some v) (h2 : G k = none) (h3 : J k = none) : QL F G J B k w v :=
  ⟨fun x hx => (by rw [h1] at hx; exact Option.some.inj hx), fun L hL => (by rw [h2] at hL; cases hL), fun L hL => (by rw [h3] at hL; cases hL)⟩
theorem qlN {F : Nat → Option Value} {G : Nat → Option LG} {J : Nat → Option (LG × Nat)} {B k : Nat} {w : World} {y : Value} (h1 : F k = none) (h2 : G k = none) (h3 : J k = none) : QL F G J B k w y :=
  ⟨fun x hx => (by rw [h1] at hx; cases hx), fun M hM => (by rw [h2] at hM; cases hM), fun M hM => (by rw [h3] at hM; cases hM)⟩
end Go.Proofs.YtnjmgknicffcbaaGreatDoor
namespace Go.Proofs.YtnjmgknicffcbaaGreatDoor
open Go.RowKit Go.Joins

theorem VBox.kp {w w' : World} {g b : Nat} {a : Nat → Nat} (h : VBox w b a) (k : Kp (some g) w w') (hr : b ≠ g) : VBox w' b a := ⟨kp_obj k h.box (fun e => hr (Option.some.inj e).symm)⟩
theorem putCells_keep : ∀ (cs : List Value) (w : World) (g o : Nat) (x : Nat), x ≠ g → (putCells w g o cs).heap[x]? = w.heap[x]?
  | [], _, _, _, _, _ => rfl
  | u :: r, w, g, o, x, h => by
    show (putCells (w.setCell ⟨g, o, none⟩ u) g (o + 1) r).heap[x]? = _
    rw [putCells_keep r _ g (o + 1) x h, Go.Deep.blk_setCell_other _ _ _ _ h]
/-- A vector's box is stored anew. -/
theorem putV8 {w : World} {b : Nat} {a : Nat → Nat} (h : VBox w b a) (c : Nat → Nat) : (∀ x, x ≠ b → (putCells w b 0 (vcells c).toList).heap[x]? = w.heap[x]?) ∧ VBox (putCells w b 0 (vcells c).toList) b c := by
  refine ⟨fun x hx => putCells_keep _ _ _ _ _ hx, ⟨?_⟩⟩
  have h8 := (((((((h.set (k := 0) (by decide) (c 0)).set (k := 1) (by decide) (c 1)).set (k := 2) (by decide) (c 2)).set (k := 3) (by decide) (c 3)).set (k := 4) (by decide) (c 4)).set (k := 5) (by decide) (c 5)).set (k := 6) (by decide) (c 6)).set (k := 7) (by decide) (c 7)
  exact h8.box
end Go.Proofs.YtnjmgknicffcbaaGreatDoor
namespace Go.Proofs.YtnjmgknicffcbaaGreatDoor
open Go.RowKit Go.Joins

/-- Eight cells of a vector at this place. -/
def VCo (w : World) (b o : Nat) (a : Nat → Nat) : Prop := w.cell? ⟨b, o, none⟩ = some (.int .u64 (a 0 : Int)) ∧ w.cell? ⟨b, o + 1, none⟩ = some (.int .u64 (a 1 : Int)) ∧ w.cell? ⟨b, o + 2, none⟩ = some (.int .u64 (a 2 : Int)) ∧ w.cell? ⟨b, o + 3, none⟩ = some (.int .u64 (a 3 : Int)) ∧ w.cell? ⟨b, o + 4, none⟩ = some (.int .u64 (a 4 : Int)) ∧ w.cell? ⟨b, o + 5, none⟩ = some (.int .u64 (a 5 : Int)) ∧ w.cell? ⟨b, o + 6, none⟩ = some (.int .u64 (a 6 : Int)) ∧ w.cell? ⟨b, o + 7, none⟩ = some (.int .u64 (a 7 : Int))
theorem VCo.gr {w w' : World} {b o : Nat} {a : Nat → Nat} (h : VCo w b o a) (g : Gr w w') : VCo w' b o a := by
  obtain ⟨h0, h1, h2, h3, h4, h5, h6, h7⟩ := h
  exact ⟨g.cell h0, g.cell h1, g.cell h2, g.cell h3, g.cell h4, g.cell h5, g.cell h6, g.cell h7⟩
end Go.Proofs.YtnjmgknicffcbaaGreatDoor
