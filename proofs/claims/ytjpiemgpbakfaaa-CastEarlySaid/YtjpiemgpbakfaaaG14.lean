/- Texts CutF, joined. -/
import Derived.Test.YtjpiemgpbakfaaaG13
import Derived.Deep.RegionHeld3
/- Walks: the program's Copy of logs. -/
namespace Go.Proofs.Ytjpiemgpbakfaaa
open Go.RowKit Go.Joins
set_option linter.unusedSimpArgs false
set_option linter.unusedVariables false

/-- The blocks from B on that were there stay as they were. -/
structure Mid (B : Nat) (a b : World) : Prop where
  size : a.heap.size ≤ b.heap.size
  mid : ∀ x, B ≤ x → x < a.heap.size → b.heap[x]? = a.heap[x]?
theorem Mid.refl (B : Nat) (a : World) : Mid B a a := ⟨Nat.le_refl _, fun _ _ _ => rfl⟩
theorem Mid.trans {B : Nat} {a b c : World} (h : Mid B a b) (k : Mid B b c) : Mid B a c := ⟨Nat.le_trans h.size k.size, fun x hx hl => (k.mid x hx (Nat.lt_of_lt_of_le hl h.size)).trans (h.mid x hx hl)⟩
theorem Mid.of_gr {B : Nat} {a b : World} (g : Gr a b) : Mid B a b := ⟨g.size, fun x _ hl => g.block x hl⟩
theorem Mid.gr {B : Nat} {a b c : World} (h : Mid B a b) (g : Gr b c) : Mid B a c := h.trans (Mid.of_gr g)
theorem Mid.set {B : Nat} {a b : World} (h : Mid B a b) {p : Addr} (hp : p.block < B ∨ a.heap.size ≤ p.block) (v : Value) : Mid B a (b.setCell p v) := by
  refine ⟨by simpa [World.setCell] using h.size, fun x hx hl => ?_⟩
  rw [Go.Deep.blk_setCell_other _ _ _ _ (by omega)]
  exact h.mid x hx hl
theorem own_mid {a b : World} {B : Nat} {t : TypeId} {size n : Nat} {v : Value} {xs : List Value} (h : a.ownsRow B t size v n xs) (k : Mid B a b) : b.ownsRow B t size v n xs := by
  refine ⟨h.1, ?_⟩
  rcases h.2 with h2 | ⟨g', cap, cur, hh, hb, hg, hn, hm, hcs, ht⟩
  · exact .inl h2
  · exact .inr ⟨g', cap, cur, hh, hb, by rw [k.mid g' hb (Array.getElem?_eq_some_iff.1 hg).1]; exact hg, hn, hm, hcs, ht⟩
/-- The operations of the first d lie in memory from B on, the others' where they lay in w0. -/
def TOd (w0 w : World) (B d : Nat) (R : List TR) : Prop := ∀ j (hj : j < R.length), (j < d → TOO w B R[j].2.v R[j].1.ops) ∧ (d ≤ j → TOV w0 R[j].2.v R[j].1.ops)
def TOn (w : World) (B : Nat) (R : List TR) : Prop := ∀ r ∈ R, TOO w B r.2.v r.1.ops
theorem TOd.mid {w0 a b : World} {B d : Nat} {R : List TR} (h : TOd w0 a B d R) (k : Mid B a b) : TOd w0 b B d R := fun j hj => ⟨fun e => own_mid ((h j hj).1 e) k, (h j hj).2⟩
theorem TOd.start {w0 w : World} {B : Nat} {R : List TR} (h : TOs w0 R) : TOd w0 w B 0 R := fun j hj => ⟨fun e => absurd e (Nat.not_lt_zero _), fun _ => h _ (List.getElem_mem hj)⟩
theorem TOd.end {w0 w : World} {B d : Nat} {R : List TR} (h : TOd w0 w B d R) (e : R.length ≤ d) : TOn w B R := fun r hr => by
  obtain ⟨j, hj, rfl⟩ := List.mem_iff_getElem.1 hr
  exact (h j hj).1 (by omega)
theorem TOn.mid {a b : World} {B : Nat} {R : List TR} (h : TOn a B R) (k : Mid B a b) : TOn b B R := fun r hr => own_mid (h r hr) k
/-- A row of transactions that the call owns from B on. -/
def XN (w : World) (B : Nat) (v : Value) (L : List TX) : Prop := ∃ R, texts R = L ∧ XO w B v R ∧ TOn w B R
theorem XN.mid {a b : World} {B : Nat} {v : Value} {L : List TX} (h : XN a B v L) (k : Mid B a b) : XN b B v L := by
  obtain ⟨R, h1, h2, h3⟩ := h
  exact ⟨R, h1, own_mid h2 k, h3.mid k⟩
theorem XN.xv {w : World} {B : Nat} {v : Value} {L : List TX} (h : XN w B v L) : XV w v L := by
  obtain ⟨R, rfl, h2, h3⟩ := h
  exact h2.xv fun r hr => (h3 r hr).tov
theorem XN.le {w : World} {B B' : Nat} {v : Value} {L : List TX} (h : XN w B v L) (hb : B' ≤ B) : XN w B' v L := by
  obtain ⟨R, h1, h2, h3⟩ := h
  exact ⟨R, h1, h2.le hb, fun r hr => (h3 r hr).le hb⟩
/-- Logs whose rows the call owns from B on. -/
def LN (w : World) (B : Nat) (u : Nat → S3) (l : LG) : Prop := ∀ i, i < 8 → XN w B (.slice (u i).a (u i).n (u i).c) (l i)
theorem LN.lv {w : World} {B : Nat} {u : Nat → S3} {l : LG} (h : LN w B u l) : LV w u l := fun i hi => (h i hi).xv
theorem LN.mid {a b : World} {B : Nat} {u : Nat → S3} {l : LG} (h : LN a B u l) (k : Mid B a b) : LN b B u l := fun i hi => (h i hi).mid k
theorem texts_set {R : List TR} {k : Nat} (hk : k < R.length) (s : S3) : texts (R.set k (R[k].1, s)) = texts R := by
  unfold texts
  rw [List.map_set]
  refine List.ext_getElem? fun j => ?_
  by_cases e : k = j
  · subst e
    rw [List.getElem?_set_self (by rw [List.length_map]; exact hk), List.getElem?_map, List.getElem?_eq_getElem hk]
    rfl
  · rw [List.getElem?_set_ne e]
theorem texts_len (R : List TR) : (texts R).length = R.length := List.length_map _
theorem texts_at {R : List TR} {k : Nat} (hk : k < R.length) : (texts R)[k]'(by rw [texts_len]; exact hk) = R[k].1 := List.getElem_map _
/-- The row g's element k is stored anew. -/
theorem xo_put {w0 w : World} {B1 B g n c k : Nat} {R : List TR} (hB : B ≤ B1) (h : w.ownsRow B1 38 12 (.slice (some ⟨g, 0, none⟩) n c) n (trs R)) (ho : TOd w0 w B k R) (hk : k < R.length) {s : S3} (hs : TOO w B s.v R[k].1.ops) :
    ∃ R', texts R' = texts R ∧ (putCells w g (k * 12) (trcells (R[k].1, s))).ownsRow B1 38 12 (.slice (some ⟨g, 0, none⟩) n c) n (trs R') ∧ TOd w0 (putCells w g (k * 12) (trcells (R[k].1, s))) B (k + 1) R' ∧ Kp (some g) w (putCells w g (k * 12) (trcells (R[k].1, s))) := by
  obtain ⟨h1, h2⟩ := own_putCells (trcells (R[k].1, s)) (k * 12) w _ h
  have e : setFrom (trs R) (k * 12) (trcells (R[k].1, s)) = trs (R.set k (R[k].1, s)) := setFrom_rows trcells 12 trcells_len (by decide) R k hk (R[k].1, s)
  rw [e] at h1
  have keep : ∀ {v : Value} {ops : List TO}, TOO w B v ops → TOO (putCells w g (k * 12) (trcells (R[k].1, s))) B v ops := fun {v ops} hv =>
    World.ownsRow.kept hv h2 (.inr (own_types (own_le h hB) hv (by decide) (b := g) rfl))
  refine ⟨R.set k (R[k].1, s), texts_set hk s, h1, fun j hj => ?_, h2⟩
  rw [List.length_set] at hj
  by_cases e : j = k
  · subst e
    rw [List.getElem_set_self]
    exact ⟨fun _ => keep hs, fun q => by omega⟩
  · rw [List.getElem_set_ne (fun q => e q.symm)]
    exact ⟨fun q => keep ((ho j hj).1 (by omega)), fun q => (ho j hj).2 (by omega)⟩
theorem XFix.kp {w w' : World} {r : Option Nat} {b off : Nat} {t : TX} {v : Value} (h : XFix w b off t v) (k : Kp r w w') (hr : r ≠ some b) : XFix w' b off t v := by
  obtain ⟨h1, h2, h3, h4, h5, h6, h7, h8, h9, h10, h11, h12⟩ := h
  have hr' : ∀ (p : Addr), p.block = b → some p.block ≠ r := fun p hp e => hr (by rw [← e, hp])
  exact ⟨k.cell h1 (hr' _ rfl), k.cell h2 (hr' _ rfl), k.cell h3 (hr' _ rfl), k.cell h4 (hr' _ rfl), k.cell h5 (hr' _ rfl), k.cell h6 (hr' _ rfl), k.cell h7 (hr' _ rfl), k.cell h8 (hr' _ rfl), k.cell h9 (hr' _ rfl), k.cell h10 (hr' _ rfl), k.cell h11 (hr' _ rfl), k.cell h12 (hr' _ rfl)⟩
theorem Gr.trans_kp {a b c : World} {g : Nat} (h : Gr a b) (k : Kp (some g) b c) (hg : a.heap.size ≤ g) : Gr a c :=
  ⟨k.1.trans h.os, k.2.trans h.tape, k.3.trans h.output, Nat.le_trans h.size k.size, fun x hx => (k.5 x (Nat.lt_of_lt_of_le hx h.size) (fun e => by injection e with e; omega)).trans (h.block x hx)⟩
theorem Gr.putCells {a : World} {g : Nat} (hg : a.heap.size ≤ g) : ∀ (cs : List Value) (o : Nat) {b : World}, Gr a b → Gr a (putCells b g o cs)
  | [], _, _, h => h
  | _ :: r, o, _, h => Gr.putCells hg r (o + 1) (h.setCell hg _)
theorem mid_putCells {B g : Nat} (hg : g < B) : ∀ (cs : List Value) (o : Nat) (b : World), Mid B b (putCells b g o cs)
  | [], _, b => Mid.refl B b
  | u :: r, o, b => ((Mid.refl B b).set (.inl hg) u).trans (mid_putCells hg r (o + 1) _)
/-- What Copy has in memory: the logs' box, the answer's. -/
theorem boxesCp (u : Nat → S3) (w : World) : ∃ W, W = (w.alloc (.cells (lcells u) 24)).alloc (.cells (lcells fun _ => ⟨none, 0, 0⟩) 24) ∧ Gr w W ∧ W.heap.size = w.heap.size + 2 ∧
    LBox W w.heap.size u ∧ LBox W (w.heap.size + 1) (fun _ => ⟨none, 0, 0⟩) := by
  refine ⟨_, rfl, ((Gr.refl w).alloc _).alloc _, by simp, ⟨?_⟩, ⟨?_⟩⟩
  all_goals (simp only [World.alloc, Array.getElem?_push, Array.size_push]; simp)
def updS (f : Nat → S3) (k : Nat) (s : S3) : Nat → S3 := fun i => if i = k then s else f i
theorem lcells_upd (f : Nat → S3) {k : Nat} (hk : k < 8) (s : S3) : (lcells f).setIfInBounds k (.slice s.a s.n s.c) = lcells (updS f k s) := by
  match k, hk with
  | 0, _ => rfl
  | 1, _ => rfl
  | 2, _ => rfl
  | 3, _ => rfl
  | 4, _ => rfl
  | 5, _ => rfl
  | 6, _ => rfl
  | 7, _ => rfl
theorem LBox.set {w : World} {b : Nat} {u : Nat → S3} (h : LBox w b u) {k : Nat} (hk : k < 8) (A : Option Addr) (n c : Nat) : LBox (w.setCell ⟨b, k, none⟩ (.slice A n c)) b (updS u k ⟨A, n, c⟩) := ⟨by rw [block_setCell h.box]; exact congrArg (fun x => some (Obj.cells x 24 (0, 0))) (lcells_upd u hk ⟨A, n, c⟩)⟩
/-- What Copy's rounds leave: the first i logs are new. -/
structure CcR (w : World) (l : LG) (i : Nat) (ur : Nat → S3) (wr : World) : Prop where
  b : LBox wr w.heap.size ur
  z : LBox wr (w.heap.size + 1) (fun _ => ⟨none, 0, 0⟩)
  xn : ∀ j, j < i → XN wr (w.heap.size + 2) (.slice (ur j).a (ur j).n (ur j).c) (l j)
  gr : Gr w wr
structure FitC (l : LG) : Prop where
  len : ∀ i, i < 8 → (l i).length * 112 ≤ 140737488355328
  tx : ∀ i t, i < 8 → t ∈ l i → t.ops.length * 48 ≤ 140737488355328 ∧ ∀ o ∈ t.ops, o.key.size ≤ 281474976710656 ∧ o.elem.size ≤ 281474976710656
theorem FitL.c {l : LG} (h : FitL l) : FitC l := ⟨fun i hi => by have := h.len i hi; omega, fun i t hi ht => ⟨by have := (h.fit i t hi ht).len; omega, fun o ho => ⟨((h.fit i t hi ht).ops o ho).2.2.1, ((h.fit i t hi ht).ops o ho).2.2.2⟩⟩⟩

set_option maxRecDepth 100000 in
set_option maxHeartbeats 4000000 in
theorem ccopy_any (u : Nat → S3) (l : LG) (w : World) (h : LV w u l) (hf : FitC l) :
    Calls Try.prog 29 #[.agg (lcells u)] w fun e w' => ∃ u', e = .returned (.agg (lcells u')) ∧ LN w' w.heap.size u' l ∧ Gr w w' := by
  obtain ⟨W, hW, hg, hsz, hL, hZ⟩ := boxesCp u w
  have HL := Lib.hid hL
  have HZ := Lib.hid hZ
  have HG := Lib.hid hg
  have HS := Lib.hid hsz
  have HF := Lib.hid hf
  have HX := Lib.hid h
  obtain ⟨l0, l1, l2, l3, l4, l5, l6, l7⟩ := hL.all
  clear hL hZ hg hsz h hf
  go_enter Try.func29, Try.ntmps29
  go_upto_region 1 with (fail)
  rw [← hW]
  clear hW
  go_wp2_with fail
  go_loopw [8] (fun i wr => ∃ k : Nat, k ≤ 8 ∧ i = .int .i64 k ∧ Hid (∃ ur, CcR w l k ur wr)) (fun i _ => 8 - (intOf i).toNat)
  case atStart => exact ⟨0, by decide, rfl, Lib.hid ⟨u, HL.out, HZ.out, fun j hj => absurd hj (Nat.not_lt_zero _), HG.out⟩⟩
  case round =>
    clear l0 l1 l2 l3 l4 l5 l6 l7
    obtain ⟨k, hk, rfl, hcc⟩ := hrel
    rename World => wo
    obtain ⟨ur, hcr⟩ := hcc.out
    have HCR := Lib.hid hcr
    clear hcc hcr
    by_cases hlt : k < 8
    · have hk0 : (0 : Int) ≤ (k : Int) := Int.natCast_nonneg _
      have hk8 : (k : Int) < 8 := by omega
      have hix := fun W => run_index_logs u hlt W
      obtain ⟨R, hR, hsl, hto⟩ := sl_of_xv (HX.out k hlt)
      have hRl : R.length = (l k).length := by rw [← hR, texts_len]
      have hun := HX.out.len hlt
      have HCL := Lib.hid (xclone_any _ R wo (hsl.gr HCR.out.gr) (by rw [hRl]; exact HF.out.len k hlt))
      have HR := Lib.hid hR
      have HTO := Lib.hid hto
      have HRL := Lib.hid hRl
      obtain ⟨A0, hA0⟩ : ∃ A, A = (u k).a := ⟨_, rfl⟩
      obtain ⟨n, hn⟩ : ∃ n, n = (u k).n := ⟨_, rfl⟩
      obtain ⟨c0, hc0⟩ : ∃ n, n = (u k).c := ⟨_, rfl⟩
      rw [← hA0, ← hn, ← hc0] at hix HCL
      have HA0 := Lib.hid hA0
      have HN : Hid (n = R.length) := Lib.hid (by rw [hn, hun, hRl])
      have hnle : n ≤ 9223372036854775807 := by rw [HN.out, HRL.out]; exact HX.out.le hlt
      clear hsl hto hR hRl hun hA0 hn hc0
      go_wp2_with fail
      refine HCL.out.mono ?_
      rintro e w1 ⟨u1, rfl, ho1, g1⟩
      obtain ⟨A, c, rfl, -, -⟩ := own_form ho1
      rw [← HN.out]
      have hb1 := HCR.out.b.gr g1
      have s1 := hb1.at hlt
      have f1 : w1.frozen? ⟨w.heap.size, k, none⟩ = false := unfrozen_of_block hb1.box k
      have HO1 := Lib.hid ho1
      have HG1 := Lib.hid g1
      clear ho1 g1 hb1
      go_upto_region 5 with (fail)
      have hb2 := (HCR.out.b.gr HG1.out).set hlt A n c
      have hz2 := (HCR.out.z.gr HG1.out).far (p := ⟨w.heap.size, k, none⟩) (by simp) (.slice A n c)
      have hm2 : Mid (w.heap.size + 2) wo (w1.setCell ⟨w.heap.size, k, none⟩ (.slice A n c)) := (Mid.of_gr HG1.out).set (.inl (by show w.heap.size < _; omega)) _
      have hg2 : Gr w (w1.setCell ⟨w.heap.size, k, none⟩ (.slice A n c)) := (HCR.out.gr.trans HG1.out).setCell (Nat.le_refl _) _
      have hB1 : w.heap.size + 2 ≤ wo.heap.size := by
        have := (Array.getElem?_eq_some_iff.1 HCR.out.z.box).1
        omega
      have ho2 : (w1.setCell ⟨w.heap.size, k, none⟩ (.slice A n c)).ownsRow wo.heap.size 38 12 (.slice A n c) n (trs R) := by
        have h := HO1.out
        unfold XO at h
        rw [← HN.out] at h
        exact ownsRow_setCell_below h (by show w.heap.size < _; omega) _
      obtain ⟨w2, hw2⟩ : ∃ x, x = w1.setCell ⟨w.heap.size, k, none⟩ (.slice A n c) := ⟨_, rfl⟩
      rw [← hw2] at hb2 hz2 hm2 hg2 ho2 ⊢
      obtain ⟨us, hus⟩ : ∃ f, f = updS ur k ⟨A, n, c⟩ := ⟨_, rfl⟩
      rw [← hus] at hb2
      have HUS := Lib.hid hus
      have HB2 := Lib.hid hb2
      have HZ2 := Lib.hid hz2
      have HM2 := Lib.hid hm2
      have HG2 := Lib.hid hg2
      have HO2 := Lib.hid ho2
      have HB1 := Lib.hid hB1
      clear hw2 s1 f1 hb2 hz2 hm2 hg2 ho2 hB1 hus
      go_wp2_with fail
      go_loopw [18] (fun i wr => ∃ d : Nat, d ≤ n ∧ i = .int .i64 d ∧ Hid (LBox wr w.heap.size us ∧ LBox wr (w.heap.size + 1) (fun _ => ⟨none, 0, 0⟩) ∧ Mid (w.heap.size + 2) wo wr ∧ Gr w wr ∧ ∃ R', texts R' = l k ∧ wr.ownsRow wo.heap.size 38 12 (.slice A n c) n (trs R') ∧ TOd w wr (w.heap.size + 2) d R')) (fun i _ => n - (intOf i).toNat)
      case atStart => exact ⟨0, Nat.zero_le _, rfl, Lib.hid ⟨HB2.out, HZ2.out, HM2.out, HG2.out, R, HR.out, HO2.out, TOd.start HTO.out⟩⟩
      case round =>
        obtain ⟨d, hd, rfl, hst⟩ := hrel
        rename World => wr
        by_cases hdn : d < n
        · obtain ⟨g, rfl⟩ : ∃ g, A = some ⟨g, 0, none⟩ := by
            obtain ⟨_, _, _, _, R', _, h2, _⟩ := hst.out
            exact own_blk h2 (by omega)
          have hdl : d < (l k).length := by rw [← HRL.out, ← HN.out]; exact hdn
          obtain ⟨b, off, ha, xv, hx0, hx⟩ := (HX.out.gr hst.out.2.2.2.1).cell hlt hdl
          rw [← HA0.out] at ha
          subst ha
          obtain ⟨t, ht⟩ : ∃ t, t = (l k)[d] := ⟨_, rfl⟩
          rw [← ht] at hx0 hx
          obtain ⟨Ax, cx, rfl⟩ := tov_form hx0
          have hfit := HF.out.tx k t hlt (by rw [ht]; exact List.getElem_mem hdl)
          obtain ⟨nx, hnx⟩ : ∃ n, n = t.ops.length := ⟨_, rfl⟩
          have HCP := Lib.hid (fun w1 (g : Gr wr w1) => copy8_any t (.slice Ax t.ops.length cx) w1 (hx0.gr g) hfit.1 hfit.2)
          rw [← hnx] at hx HCP
          obtain ⟨x0, x1, x2, x3, x4, x5, x6, x7, x8, x9, x10, x11⟩ := hx
          obtain ⟨W5, hW5, hg5, hx5⟩ := xbox wr t (.slice Ax nx cx)
          have hd0 : (0 : Int) ≤ (d : Int) := by omega
          have hd1 : (d : Int) < (n : Int) := by omega
          have HX5 := Lib.hid hx5
          have HG5 := Lib.hid hg5
          have HT := Lib.hid ht
          have HNX := Lib.hid hnx
          have hbk := (hst.out.1.gr hg5).at hlt
          have husk : us k = ⟨some ⟨g, 0, none⟩, n, c⟩ := by rw [HUS.out]; exact if_pos rfl
          rw [husk] at hbk
          have HBK := Lib.hid hbk
          have hgs : g < wr.heap.size := by
            obtain ⟨_, _, _, _, R', _, h2, _⟩ := hst.out
            exact (own_len h2).2.2.2
          have HGS := Lib.hid hgs
          have hgB : wo.heap.size ≤ g := by
            obtain ⟨_, _, _, _, R', _, h2, _⟩ := hst.out
            exact (own_len h2).2.2.1
          have HGB := Lib.hid hgB
          clear hx0 hfit hx5 hg5 ht hnx hbk husk hgs hgB hix
          go_upto_region 8 with (fail)
          rw [← hW5]
          clear hW5 x0 x1 x2 x3 x4 x5 x6 x7 x8 x9 x10 x11
          refine wp_region_held_drew (S := fun w' => w'.cell? ⟨w.heap.size, k, none⟩ = some (.slice (some ⟨g, 0, none⟩) n c) ∧ XFix w' wr.heap.size 0 t (.slice Ax nx cx)) (by kernel_rfl) ⟨(Gr.refl _).drew.cell HBK.out, HX5.out.gr (Gr.refl _).drew⟩ (fun hHeld => ?_)
          refine hTake (i := 0) rfl (by kernel_rfl) (by kernel_rfl) (by kernel_rfl) (by kernel_rfl) (by assumption) ?_
          apply Exists.intro
          refine ⟨fun _ _ _ h => h, fun wq hq => ?_, ?_⟩
          · go_light
            obtain ⟨e11, ⟨e0, e1, e2, e3, e4, e5, e6, e7, e8, e9, e10, e12⟩⟩ := hq
            go_simp
            try with_reducible rfl
            done
          try simp only [Act.put, List.setIfInBounds_toArray, List.set_cons_zero, List.set_cons_succ]
          refine hTake (i := 1) rfl (by kernel_rfl) (by kernel_rfl) (by kernel_rfl) (by kernel_rfl) (by assumption) ?_
          apply Exists.intro
          refine ⟨fun _ _ _ h => h, fun wq hq => ?_, ?_⟩
          · go_light
            obtain ⟨e11, ⟨e0, e1, e2, e3, e4, e5, e6, e7, e8, e9, e10, e12⟩⟩ := hq
            go_simp
            try with_reducible rfl
            done
          try simp only [Act.put, List.setIfInBounds_toArray, List.set_cons_zero, List.set_cons_succ]
          refine hTake (i := 2) rfl (by kernel_rfl) (by kernel_rfl) (by kernel_rfl) (by kernel_rfl) (by assumption) ?_
          apply Exists.intro
          refine ⟨fun _ _ _ h => h, fun wq hq => ?_, ?_⟩
          · go_light
            obtain ⟨e11, ⟨e0, e1, e2, e3, e4, e5, e6, e7, e8, e9, e10, e12⟩⟩ := hq
            go_simp
            try with_reducible rfl
            done
          try simp only [Act.put, List.setIfInBounds_toArray, List.set_cons_zero, List.set_cons_succ]
          refine hTake (i := 3) rfl (by kernel_rfl) (by kernel_rfl) (by kernel_rfl) (by kernel_rfl) (by assumption) ?_
          apply Exists.intro
          refine ⟨fun _ _ _ h => h, fun wq hq => ?_, ?_⟩
          · go_light
            obtain ⟨e11, ⟨e0, e1, e2, e3, e4, e5, e6, e7, e8, e9, e10, e12⟩⟩ := hq
            go_simp
            try with_reducible rfl
            done
          try simp only [Act.put, List.setIfInBounds_toArray, List.set_cons_zero, List.set_cons_succ]
          refine hTake (i := 4) rfl (by kernel_rfl) (by kernel_rfl) (by kernel_rfl) (by kernel_rfl) (by assumption) ?_
          apply Exists.intro
          refine ⟨fun _ _ _ h => h, fun wq hq => ?_, ?_⟩
          · go_light
            obtain ⟨e11, ⟨e0, e1, e2, e3, e4, e5, e6, e7, e8, e9, e10, e12⟩⟩ := hq
            go_simp
            try with_reducible rfl
            done
          try simp only [Act.put, List.setIfInBounds_toArray, List.set_cons_zero, List.set_cons_succ]
          refine wpAnyH_ready (rs := [5]) (by kernel_rfl) (by simp) ?_
          refine AllReadyH.cons rfl (fun K hK => ?_) AllReadyH.nil
          go_simp
          go_at_call 44
          refine (HCP.out _ HG5.out.drew).mono ?_
          rintro e w7 ⟨u7, rfl, ho7, g7⟩
          have hS7 := And.intro (g7.cell hHeld.1) (hHeld.2.gr g7)
          obtain ⟨A7, c7, rfl, -, -⟩ := ho7.form
          have HO7 := Lib.hid ho7
          have HG7 := Lib.hid g7
          clear ho7 g7
          go_wp2_with fail
          refine hK.out _ _ hS7 (fun hHeld7 => ?_)
          clear hK K
          try simp only [Act.put, List.setIfInBounds_toArray, List.set_cons_zero, List.set_cons_succ]
          refine wpAnyH_ready (rs := [6]) (by kernel_rfl) (by simp) ?_
          refine AllReadyH.cons rfl (fun K hK => ?_) AllReadyH.nil
          go_simp
          refine hK.out _ _ hS7 (fun _ => ?_)
          clear hK K
          try simp only [Act.put, List.setIfInBounds_toArray, List.set_cons_zero, List.set_cons_succ]
          refine wpAnyH_ready (rs := [7]) (by kernel_rfl) (by simp) ?_
          refine AllReadyH.cons rfl (fun K hK => ?_) AllReadyH.nil
          obtain ⟨hbb, hzz, hmid, hgrr, R', hR', hrow, hto'⟩ := hst.out
          have g57 : Gr wr w7 := HG5.out.drew.trans HG7.out
          have hRd : d < R'.length := by rw [← texts_len, hR']; exact hdl
          have hRt : R'[d].1 = t := by
            have e := texts_at hRd
            rw [HT.out, ← e]
            simp only [hR']
          have hrow7 := own_gr hrow g57
          have hto7 := hto'.mid (Mid.of_gr (B := w.heap.size + 2) g57)
          have hs7 : TOO w7 (w.heap.size + 2) (S3.v ⟨A7, t.ops.length, c7⟩) R'[d].1.ops := by
            rw [hRt]
            refine own_le HO7.out ?_
            have h1 := HB1.out
            have h2 := hgrr.size
            have h3 := hmid.size
            have h4 : wr.heap.size ≤ W5.drew.heap.size := HG5.out.drew.size
            omega
          have hfx := xfix_at (w := w7) (b := g) (off := 0) hRd fun i u hu => by rw [Nat.zero_add]; exact own_cell hrow7 hu
          rw [Nat.zero_add] at hfx
          obtain ⟨q0, q1, q2, q3, q4, q5, q6, q7, q8, q9, q10, q11⟩ := hfx
          have hfree := fun j => own_free hrow7 j
          have v0 := hfree (d * 12)
          have v1 := hfree (d * 12 + 1)
          have v2 := hfree (d * 12 + 2)
          have v3 := hfree (d * 12 + 3)
          have v4 := hfree (d * 12 + 4)
          have v5 := hfree (d * 12 + 5)
          have v6 := hfree (d * 12 + 6)
          have v7 := hfree (d * 12 + 7)
          have v8 := hfree (d * 12 + 8)
          have v9 := hfree (d * 12 + 9)
          have v10 := hfree (d * 12 + 10)
          have v11 := hfree (d * 12 + 11)
          obtain ⟨R2, hR2t, hrow8, hto8, hkp8⟩ := xo_put (by have := HB1.out; omega) hrow7 hto7 hRd hs7
          rw [hRt] at hrow8 hto8 hkp8
          have hHb := hbb.gr g57
          have hHz := hzz.gr g57
          have hmid7 := hmid.gr g57
          have hgr7 := hgrr.trans g57
          have HROW8 := Lib.hid hrow8
          have HTO8 := Lib.hid hto8
          have HKP8 := Lib.hid hkp8
          have HT2 : Hid (texts R2 = l k) := Lib.hid (hR2t.trans hR')
          have HM7 := Lib.hid hmid7
          have HGR7 := Lib.hid hgr7
          have HBB := Lib.hid hHb
          have HZZ := Lib.hid hHz
          clear hfree hbb hzz hmid hgrr hR' hrow hto' g57 hRt hrow7 hto7 hs7 hR2t hrow8 hto8 hkp8 hHb hHz hmid7 hgr7
          go_simp
          show K _ (putCells w7 g (d * 12) (trcells (t, ⟨A7, t.ops.length, c7⟩)))
          obtain ⟨w8, hw8⟩ : ∃ x, x = putCells w7 g (d * 12) (trcells (t, ⟨A7, t.ops.length, c7⟩)) := ⟨_, rfl⟩
          rw [← hw8] at HROW8 HTO8 HKP8 ⊢
          clear hw8 q0 q1 q2 q3 q4 q5 q6 q7 q8 q9 q10 q11 v0 v1 v2 v3 v4 v5 v6 v7 v8 v9 v10 v11
          have hS8 := And.intro (HKP8.out.cell hS7.1 (by have h1 := HGB.out; have h2 := HB1.out; intro e; injection e with e; simp only at e; omega)) (hS7.2.kp HKP8.out (by have := HGS.out; intro e; injection e with e; omega))
          refine hK.out _ _ hS8 (fun _ => ?_)
          clear hK K
          have HB8 : Hid (LBox w8 w.heap.size us) := Lib.hid ⟨kp_obj HKP8.out HBB.out.box (by have h1 := HGB.out; have h2 := HB1.out; intro e; injection e with e; omega)⟩
          have HZ8 : Hid (LBox w8 (w.heap.size + 1) (fun _ => ⟨none, 0, 0⟩)) := Lib.hid ⟨kp_obj HKP8.out HZZ.out.box (by have h1 := HGB.out; have h2 := HB1.out; intro e; injection e with e; omega)⟩
          have HM8 : Hid (Mid (w.heap.size + 2) wo w8) := Lib.hid ⟨Nat.le_trans HM7.out.size HKP8.out.size, fun x hx hl => by
            have hxg : x ≠ g := by have := HGB.out; omega
            rw [← HM7.out.mid x hx hl]
            exact HKP8.out.5 x (Nat.lt_of_lt_of_le hl HM7.out.size) (fun e => hxg (Option.some.inj e))⟩
          have HG8 : Hid (Gr w w8) := Lib.hid (HGR7.out.trans_kp HKP8.out (by have h1 := HGB.out; have h2 := HB1.out; omega))
          clear hS8 hS7 hHeld hHeld7
          refine wpAnyH_done (by kernel_rfl) ?_ _
          go_wp2_with fail
          go_roundw
          case measure => simp [intOf]; omega
          case rel => exact ⟨d + 1, by omega, by go_num, Lib.hid ⟨HB8.out, HZ8.out, HM8.out, HG8.out, R2, HT2.out, HROW8.out, HTO8.out⟩⟩
        · obtain rfl : d = n := by omega
          obtain ⟨hbb, hzz, hmid, hgrr, R', hR', hrow, hto'⟩ := hst.out
          have HCC : Hid (∃ ur, CcR w l (k + 1) ur wr) := Lib.hid ⟨us, hbb, hzz, fun j hj => by
            by_cases e : j = k
            · subst e
              have e2 : us j = ⟨A, d, c⟩ := by rw [HUS.out]; exact if_pos rfl
              rw [e2]
              have hl : R'.length = d := by rw [← texts_len, hR', HN.out, HRL.out]
              refine ⟨R', hR', ?_, hto'.end (by omega)⟩
              show wr.ownsRow _ _ _ _ R'.length _
              rw [hl]
              exact own_le hrow HB1.out
            · have e2 : us j = ur j := by rw [HUS.out]; exact if_neg e
              rw [e2]
              exact (HCR.out.xn j (by omega)).mid hmid, hgrr⟩
          have hdd : ¬ ((d : Int) < (d : Int)) := by omega
          clear hbb hzz hmid hgrr hR' hrow hto'
          go_wp2_with fail
          go_roundw
          case measure => simp [intOf]; omega
          case rel => exact ⟨k + 1, by omega, by go_num, HCC⟩
    · obtain ⟨q0, q1, q2, q3, q4, q5, q6, q7⟩ := HCR.out.b.all
      have hz := HCR.out.z
      obtain ⟨s0, s1, s2, s3, s4, s5, s6, s7⟩ := hz.all
      have f0 := unfrozen_of_block hz.box 0
      have f1 := unfrozen_of_block hz.box 1
      have f2 := unfrozen_of_block hz.box 2
      have f3 := unfrozen_of_block hz.box 3
      have f4 := unfrozen_of_block hz.box 4
      have f5 := unfrozen_of_block hz.box 5
      have f6 := unfrozen_of_block hz.box 6
      have f7 := unfrozen_of_block hz.box 7
      have hge : ¬ ((k : Int) < 8) := by omega
      have HLV : Hid (∀ i, i < 8 → XN wo (w.heap.size + 2) (.slice (ur i).a (ur i).n (ur i).c) (l i)) := Lib.hid fun i hi => HCR.out.xn i (by omega)
      have HG2 := Lib.hid HCR.out.gr
      have HLT := Lib.hid (show w.heap.size + 1 < wo.heap.size from (Array.getElem?_eq_some_iff.1 hz.box).1)
      clear hz
      go_wp2_with fail
      refine bodyPost_ret (v := .agg (lcells ur)) (by simp [results, Try.results29, go_sem, *]) rfl ⟨ur, rfl, ?_, ?_⟩
      · show LN (putCells wo (w.heap.size + 1) 0 [.slice (ur 0).a (ur 0).n (ur 0).c, .slice (ur 1).a (ur 1).n (ur 1).c, .slice (ur 2).a (ur 2).n (ur 2).c, .slice (ur 3).a (ur 3).n (ur 3).c, .slice (ur 4).a (ur 4).n (ur 4).c, .slice (ur 5).a (ur 5).n (ur 5).c, .slice (ur 6).a (ur 6).n (ur 6).c, .slice (ur 7).a (ur 7).n (ur 7).c]) w.heap.size ur l
        exact fun i hi => ((HLV.out i hi).mid (mid_putCells (Nat.lt_succ_self _) _ _ _)).le (by omega)
      · show Gr w (putCells wo (w.heap.size + 1) 0 [.slice (ur 0).a (ur 0).n (ur 0).c, .slice (ur 1).a (ur 1).n (ur 1).c, .slice (ur 2).a (ur 2).n (ur 2).c, .slice (ur 3).a (ur 3).n (ur 3).c, .slice (ur 4).a (ur 4).n (ur 4).c, .slice (ur 5).a (ur 5).n (ur 5).c, .slice (ur 6).a (ur 6).n (ur 6).c, .slice (ur 7).a (ur 7).n (ur 7).c])
        exact Gr.putCells (Nat.le_succ _) _ _ HG2.out
end Go.Proofs.Ytjpiemgpbakfaaa
