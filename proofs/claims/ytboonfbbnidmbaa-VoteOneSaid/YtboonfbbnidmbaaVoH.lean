/- Walk: the program's Pick. -/
import Derived.Test.YtboonfbbnidmbaaVoV
import Derived.Test.YtboonfbbnidmbaaVoB
namespace Go.Proofs.Ytboonfbbnidmbaa
open Go.RowKit Vo
set_option linter.unusedSimpArgs false

abbrev vtA (who : Int) (bal at' : Nat) (val : ByteArray) : Array Value := #[.int .i64 who, .int .u64 (bal : Int), .int .u64 (at' : Int), .string val]
theorem box_vt (who : Int) (bal at' : Nat) (val : ByteArray) (w : World) : ∃ W, W = w.alloc (.cells (vtA who bal at' val) 44) ∧ Gr w W ∧ W.heap[w.heap.size]? = some (.cells (vtA who bal at' val) 44 (0, 0)) :=
  ⟨_, rfl, (Gr.refl w).alloc _, (MapKept.heap_alloc w _).1⟩
theorem vset_obj {w : World} {b i : Nat} {cs : Array Value} {t : TypeId} {fr : Nat × Nat} (h : w.heap[b]? = some (.cells cs t fr)) (v : Value) : (w.setCell ⟨b, i, none⟩ v).heap[b]? = some (.cells (cs.setIfInBounds i v) t fr) := by
  have hlt : b < w.heap.size := (Array.getElem?_eq_some_iff.1 h).1
  have he : w.heap[b] = .cells cs t fr := (Array.getElem?_eq_some_iff.1 h).2
  show (w.heap.modify b _)[b]? = _
  rw [Array.getElem?_eq_getElem (by simpa using hlt), Array.getElem_modify, if_pos rfl, he]
  rfl
/-- A vote stored in a box. -/
theorem store_vt {w : World} {b : Nat} {x : Int} {y z : Nat} {s : ByteArray} {t : TypeId} (h : w.heap[b]? = some (.cells (vtA x y z s) t (0, 0))) (x' : Int) (y' z' : Nat) (s' : ByteArray) :
    ∃ W, W = (((w.setCell ⟨b, 0, none⟩ (.int .i64 x')).setCell ⟨b, 1, none⟩ (.int .u64 (y' : Int))).setCell ⟨b, 2, none⟩ (.int .u64 (z' : Int))).setCell ⟨b, 3, none⟩ (.string s') ∧ W.heap[b]? = some (.cells (vtA x' y' z' s') t (0, 0)) ∧
      (∀ b' o, b' ≠ b → w.heap[b']? = some o → W.heap[b']? = some o) ∧ ∀ w0 : World, Gr w0 w → w0.heap.size ≤ b → Gr w0 W := by
  refine ⟨_, rfl, ?_, fun b' o hne ho => set_obj_other' (set_obj_other' (set_obj_other' (set_obj_other' ho hne _) hne _) hne _) hne _, fun w0 g hb => (((g.set hb _ _).set hb _ _).set hb _ _).set hb _ _⟩
  have h1 := vset_obj (i := 0) h (.int .i64 x')
  have h2 := vset_obj (i := 1) h1 (.int .u64 (y' : Int))
  have h3 := vset_obj (i := 2) h2 (.int .u64 (z' : Int))
  exact vset_obj (i := 3) h3 (.string s')
theorem crowdP_snoc (p : Vt → Bool) (L : List Vt) (v : Vt) (m : Nat) : crowdP p (L ++ [v]) m = (crowdP p L m || (decide (v.who = (m : Int)) && p v)) := by
  unfold crowdP
  rw [List.any_append]
  simp
theorem Crowd.take {S : Nat → Bool} {p : Vt → Bool} {L : List Vt} {c : Nat} {v : Vt} (h : Crowd S (crowdP p L) c) (hp : p v = true) : Crowd S (crowdP p (L ++ [v])) (c ||| bitN S v.who) :=
  (h.or v.who).congr fun k _ => by rw [crowdP_snoc, hp, Bool.and_true]
theorem Crowd.leave {S : Nat → Bool} {p : Vt → Bool} {L : List Vt} {c : Nat} {v : Vt} (h : Crowd S (crowdP p L) c) (hp : p v = false) : Crowd S (crowdP p (L ++ [v])) c :=
  h.congr fun k _ => by rw [crowdP_snoc, hp, Bool.and_false, Bool.or_false]
theorem Crowd.out {S : Nat → Bool} {p : Vt → Bool} {L : List Vt} {c : Nat} {v : Vt} (h : Crowd S (crowdP p L) c) (hp : inSet S v.who = false) : Crowd S (crowdP p (L ++ [v])) c := by
  refine ⟨h.lt, fun k hk => ?_⟩
  rw [h.bits k hk, crowdP_snoc]
  by_cases e : v.who = (k : Int)
  · rw [e, inSet_nat S hk] at hp
    rw [hp]
    rfl
  · rw [decide_eq_false e, Bool.false_and, Bool.or_false]
theorem bit_pos {S : Nat → Bool} {m : Int} (h : inSet S m = true) : bitN S m ≠ 0 := by
  unfold bitN
  rw [if_pos h]
  exact Nat.ne_of_gt (Nat.pow_pos (by decide))
theorem bit_zero {S : Nat → Bool} {m : Int} (h : inSet S m = false) : bitN S m = 0 := by
  unfold bitN
  rw [h]
  rfl
theorem counts_is (S : Nat → Bool) (b : Nat) (v : Vt) : counts S b v = (inSet S v.who && decide (v.bal = b)) := by
  unfold counts inSet
  rw [Bool.and_assoc, Bool.and_assoc]
/-- What is picked so far. -/
structure PkI (S : Nat → Bool) (b : Nat) (own : ByteArray) (L : List Vt) (c : Nat) (l : Nat × ByteArray) : Prop where
  crowd : Crowd S (crowdP (sameBal b) L) c
  best : l = best S b L (0, own)
theorem PkI.start (S : Nat → Bool) (b : Nat) (own : ByteArray) : PkI S b own [] 0 (0, own) := ⟨(Crowd.zero S).congr fun _ _ => rfl, rfl⟩
theorem PkI.no {S : Nat → Bool} {b : Nat} {own : ByteArray} {L : List Vt} {c : Nat} {l : Nat × ByteArray} (h : PkI S b own L c l) {v : Vt} (hv : inSet S v.who = false ∨ v.bal ≠ b) : PkI S b own (L ++ [v]) c l := by
  have hc : counts S b v = false := by
    rw [counts_is]
    rcases hv with hv | hv
    · rw [hv]; rfl
    · rw [decide_eq_false hv, Bool.and_false]
  refine ⟨?_, by rw [best_snoc, hc, Bool.false_and, if_neg (by decide), h.best]⟩
  rcases hv with hv | hv
  · exact h.crowd.out hv
  · exact h.crowd.leave (by unfold sameBal; exact decide_eq_false hv)
theorem PkI.yes {S : Nat → Bool} {b : Nat} {own : ByteArray} {L : List Vt} {c : Nat} {l : Nat × ByteArray} (h : PkI S b own L c l) {v : Vt} (h1 : inSet S v.who = true) (h2 : v.bal = b) : PkI S b own (L ++ [v]) (c ||| bitN S v.who) (if l.1 < v.at' then (v.at', v.val) else l) := by
  refine ⟨h.crowd.take (by unfold sameBal; exact decide_eq_true h2), ?_⟩
  rw [best_snoc, counts_is, h1, decide_eq_true h2, ← h.best]
  by_cases q : l.1 < v.at'
  · rw [if_pos q, decide_eq_true q]; rfl
  · rw [if_neg q, decide_eq_false q]; rfl
theorem best_fit {S : Nat → Bool} {b : Nat} {own : ByteArray} {L : List Vt} (ho : own.size ≤ 281474976710656) (hL : ∀ v ∈ L, FitVt v) : (best S b L (0, own)).2.size ≤ 281474976710656 := by
  rcases best_of S b L (0, own) with h | ⟨v, hv, _, _, h⟩
  · rw [h]; exact ho
  · rw [h]; exact (hL v hv).val
/-- Pick's answer, as a value. -/
def pickV (o : Option ByteArray) : Value := match o with | some x => .tuple #[.string x, .bool true] | none => .tuple #[.string ⟨#[]⟩, .bool false]
def PickRel (S : Nat → Bool) (b : Nat) (own : ByteArray) (L : List Vt) (n : Nat) (W : World) (b4 b11 : Nat) (c i : Value) (wr : World) : Prop :=
  ∃ (k x : Nat) (who : Int) (bal a : Nat) (s : ByteArray), k ≤ n ∧ i = .int .i64 (k : Int) ∧ c = .int .u8 (x : Int) ∧ PkI S b own (L.take k) x (a, s) ∧
    wr.heap[b4]? = some (.cells (setc S) 35 (0, 0)) ∧ wr.heap[b11]? = some (.cells (vtA who bal a s) 44 (0, 0)) ∧ Gr W wr
set_option maxRecDepth 100000 in
set_option maxHeartbeats 2000000 in
theorem pick_any (S : Nat → Bool) (b : Nat) (v : Value) (L : List Vt) (own : ByteArray) (w : World) (hv : VV w v L) (hL : ∀ v ∈ L, FitVt v) (ho : own.size ≤ 281474976710656) :
    Calls Try.prog 15 #[.agg (setc S), .int .u64 (b : Int), v, .string own] w fun e w' => e = .returned (pickV (pickO S b L own)) ∧ Gr w w' := by
  obtain ⟨W, hW, hg, hX, _⟩ := box_set S w
  obtain ⟨A, c, rfl, h1, h2, h3⟩ := hv.form
  obtain ⟨n, hn⟩ : ∃ n, n = L.length := ⟨_, rfl⟩
  rw [← hn] at h1 ⊢
  have HN := Lib.hid hn
  have HV := Lib.hid h3
  have HG := Lib.hid hg
  have HX := Lib.hid hX
  have HFIT := Lib.hid (fun (S : Nat → Bool) (b : Nat) => best_fit (S := S) (b := b) ho hL)
  clear hX hg hv h3 hn hL ho
  go_enter Try.func15, Try.ntmps15
  go_upto_region 1 with (fail)
  rw [← hW]
  clear hW
  go_upto_region 3 with (fail)
  obtain ⟨W2, h2', g2, hb2⟩ := box_vt 0 0 0 own W
  have e2 : W2 = W.alloc (.cells #[.int .i64 0, .int .u64 0, .int .u64 0, .string own] 44) := h2'
  rw [← e2]
  clear e2 h2'
  obtain ⟨b4, hb4⟩ : ∃ z, z = w.heap.size := ⟨_, rfl⟩
  obtain ⟨b11, hb11⟩ : ∃ z, z = W.heap.size := ⟨_, rfl⟩
  have HX2 := Lib.hid (gr_obj' g2 HX.out)
  have HB2 := Lib.hid hb2
  have HG2 := Lib.hid (HG.out.trans g2)
  have HL11 : Hid (w.heap.size ≤ b11) := Lib.hid (by rw [hb11]; exact HG.out.size)
  have HNE : Hid (b4 ≠ b11) := Lib.hid (by rw [hb4, hb11]; exact Nat.ne_of_lt (Array.getElem?_eq_some_iff.1 HX.out).1)
  rw [← hb4] at HX2 ⊢
  rw [← hb11] at HB2 ⊢
  clear hb2 g2 hb4 hb11 HX
  go_wp2_with fail
  go_loopw [10, 13, 14, 19] (fun c _ _ i wr => PickRel S b own L n w b4 b11 c i wr) (fun _ _ _ i _ => n - (intOf i).toNat)
  case atStart => exact ⟨0, 0, 0, 0, 0, own, Nat.zero_le _, rfl, rfl, PkI.start S b own, HX2.out, HB2.out, HG2.out⟩
  case round =>
    clear HX2 HB2 HG2
    obtain ⟨k, cr, lw, lb, la, ls, hk, rfl, rfl, hpk, hx4, hx11, hgr⟩ := hrel
    have HPK := Lib.hid hpk
    have HX4 := Lib.hid hx4
    have HX11 := Lib.hid hx11
    have HGR := Lib.hid hgr
    clear hpk hx4 hx11 hgr
    by_cases hlt : k < n
    · have hkL : k < L.length := by rw [← HN.out]; exact hlt
      obtain ⟨bv, off, rfl, hm⟩ := HV.out k hkL
      obtain ⟨vv, hvv⟩ : ∃ z, z = L[k] := ⟨_, rfl⟩
      have HT : Hid (L.take (k + 1) = L.take k ++ [vv]) := Lib.hid (by rw [take_next L hkL, hvv])
      rw [← hvv] at hm
      clear hvv hkL
      obtain ⟨who, y, z, x⟩ := vv
      obtain ⟨q0, q1, q2, q3⟩ := hm.gr HGR.out
      have hk0 : (0 : Int) ≤ (k : Int) := Int.natCast_nonneg _
      clear hm
      go_upto_region 6 with (fail)
      obtain ⟨W5, h5, g5, hb5⟩ := box_vt who y z x wr
      rw [← h5]
      clear h5 q0 q1 q2 q3
      have HX45 := Lib.hid (gr_obj' g5 HX4.out)
      have HX115 := Lib.hid (gr_obj' g5 HX11.out)
      have HB5 := Lib.hid hb5
      have HG5 := Lib.hid (HGR.out.trans g5)
      clear g5 hb5 HX4 HX11
      have c0 : W5.cell? ⟨b4, 0, none⟩ = some (.bool (S 0)) := cell_of_obj HX45.out rfl
      have c1 : W5.cell? ⟨b4, 1, none⟩ = some (.bool (S 1)) := cell_of_obj HX45.out rfl
      have c2 : W5.cell? ⟨b4, 2, none⟩ = some (.bool (S 2)) := cell_of_obj HX45.out rfl
      have c3 : W5.cell? ⟨b4, 3, none⟩ = some (.bool (S 3)) := cell_of_obj HX45.out rfl
      have c4 : W5.cell? ⟨b4, 4, none⟩ = some (.bool (S 4)) := cell_of_obj HX45.out rfl
      have c5 : W5.cell? ⟨b4, 5, none⟩ = some (.bool (S 5)) := cell_of_obj HX45.out rfl
      have c6 : W5.cell? ⟨b4, 6, none⟩ = some (.bool (S 6)) := cell_of_obj HX45.out rfl
      have c7 : W5.cell? ⟨b4, 7, none⟩ = some (.bool (S 7)) := cell_of_obj HX45.out rfl
      have v0 : W5.cell? ⟨wr.heap.size, 0, none⟩ = some (.int .i64 who) := cell_of_obj HB5.out rfl
      have v1 : W5.cell? ⟨wr.heap.size, 1, none⟩ = some (.int .u64 (y : Int)) := cell_of_obj HB5.out rfl
      have v2 : W5.cell? ⟨wr.heap.size, 2, none⟩ = some (.int .u64 (z : Int)) := cell_of_obj HB5.out rfl
      have v3 : W5.cell? ⟨wr.heap.size, 3, none⟩ = some (.string x) := cell_of_obj HB5.out rfl
      go_wp2_with fail
      refine (bit_any S who _).mono ?_
      rintro e w6 ⟨rfl, g6⟩
      clear c0 c1 c2 c3 c4 c5 c6 c7 v0 v1 v2 v3
      have HX46 := Lib.hid (gr_obj' g6 HX45.out)
      have HX116 := Lib.hid (gr_obj' g6 HX115.out)
      have HB6 := Lib.hid (gr_obj' g6 HB5.out)
      have HG6 := Lib.hid (HG5.out.trans g6)
      clear g6 HX45 HX115 HB5
      have v0 : w6.cell? ⟨wr.heap.size, 0, none⟩ = some (.int .i64 who) := cell_of_obj HB6.out rfl
      have v1 : w6.cell? ⟨wr.heap.size, 1, none⟩ = some (.int .u64 (y : Int)) := cell_of_obj HB6.out rfl
      have v2 : w6.cell? ⟨wr.heap.size, 2, none⟩ = some (.int .u64 (z : Int)) := cell_of_obj HB6.out rfl
      have v3 : w6.cell? ⟨wr.heap.size, 3, none⟩ = some (.string x) := cell_of_obj HB6.out rfl
      have l0 : w6.cell? ⟨b11, 0, none⟩ = some (.int .i64 lw) := cell_of_obj HX116.out rfl
      have l1 : w6.cell? ⟨b11, 1, none⟩ = some (.int .u64 (lb : Int)) := cell_of_obj HX116.out rfl
      have l2 : w6.cell? ⟨b11, 2, none⟩ = some (.int .u64 (la : Int)) := cell_of_obj HX116.out rfl
      have l3 : w6.cell? ⟨b11, 3, none⟩ = some (.string ls) := cell_of_obj HX116.out rfl
      go_upto_region 7 with (fail)
      obtain ⟨bt, hbt⟩ : ∃ z, z = bitN S who := ⟨_, rfl⟩
      rw [← hbt]
      rcases (by cases inSet S who <;> simp : inSet S who = false ∨ inSet S who = true) with hin | hin
      · obtain rfl : bt = 0 := by rw [hbt]; exact bit_zero hin
        have HP2 : Hid (PkI S b own (L.take (k + 1)) cr (la, ls)) := Lib.hid (by rw [HT.out]; exact HPK.out.no (.inl hin))
        clear hbt hin
        go_wp2_with fail
        go_roundw
        case measure => simp [intOf]; omega
        case rel => exact ⟨k + 1, cr, lw, lb, la, ls, hlt, by go_num, rfl, HP2.out, HX46.out, HX116.out, HG6.out⟩
      · have hb0 : ((bt : Int) == 0) = false := by
          have := bit_pos hin
          rw [← hbt] at this
          simpa using this
        by_cases hbal : y = b
        case neg =>
          have hne : ((y : Int) != (b : Int)) = true := by simp; omega
          have HP2 : Hid (PkI S b own (L.take (k + 1)) cr (la, ls)) := Lib.hid (by rw [HT.out]; exact HPK.out.no (.inr hbal))
          clear hbt hin hbal
          go_wp2_with fail
          go_roundw
          case measure => simp [intOf]; omega
          case rel => exact ⟨k + 1, cr, lw, lb, la, ls, hlt, by go_num, rfl, HP2.out, HX46.out, HX116.out, HG6.out⟩
        case pos =>
          subst hbal
          have HPY : Hid (PkI S y own (L.take (k + 1)) (cr ||| bt) (if la < z then (z, x) else (la, ls))) := Lib.hid (by rw [HT.out, hbt]; exact HPK.out.yes hin rfl)
          have HOR : Hid (bits BinOp.or IntKind.u8 (cr : Int) (bt : Int) = ((cr ||| bt : Nat) : Int)) := Lib.hid (by rw [hbt]; exact bits_or8 HPK.out.crowd.lt (bitN_lt S who))
          clear hbt hin
          by_cases hgt : la < z
          case pos =>
            have t1 : decide (la < z) = true := decide_eq_true hgt
            have HP2 : Hid (PkI S y own (L.take (k + 1)) (cr ||| bt) (z, x)) := Lib.hid (by have h := HPY.out; rw [if_pos hgt] at h; exact h)
            clear hgt HPY
            have f0 := free_of_obj 0 HX116.out
            have f1 := free_of_obj 1 HX116.out
            have f2 := free_of_obj 2 HX116.out
            have f3 := free_of_obj 3 HX116.out
            go_upto_region 11 with (fail)
            obtain ⟨W7, h7, hx7, ho7, hg7⟩ := store_vt HX116.out who y z x
            rw [← h7]
            clear h7 f0 f1 f2 f3 l0 l1 l2 l3 v0 v1 v2 v3
            have HX47 := Lib.hid (ho7 _ _ HNE.out HX46.out)
            have HX117 := Lib.hid hx7
            have HG7 := Lib.hid (hg7 _ HG6.out HL11.out)
            clear hx7 ho7 hg7
            go_wp2_with fail
            go_roundw
            case measure => simp [intOf]; omega
            case rel => exact ⟨k + 1, cr ||| bt, who, y, z, x, hlt, by go_num, by rw [HOR.out], HP2.out, HX47.out, HX117.out, HG7.out⟩
          case neg =>
            have t1 : decide (la < z) = false := decide_eq_false hgt
            have HP2 : Hid (PkI S y own (L.take (k + 1)) (cr ||| bt) (la, ls)) := Lib.hid (by have h := HPY.out; rw [if_neg hgt] at h; exact h)
            clear hgt HPY
            go_wp2_with fail
            go_roundw
            case measure => simp [intOf]; omega
            case rel => exact ⟨k + 1, cr ||| bt, lw, lb, la, ls, hlt, by go_num, by rw [HOR.out], HP2.out, HX46.out, HX116.out, HG6.out⟩
    · obtain rfl : k = n := by omega
      have HC : Hid (mostB S cr = majB S (crowdP (sameBal b) L)) := Lib.hid (by
        have h := HPK.out.crowd
        rw [List.take_of_length_le (by rw [← HN.out]; exact Nat.le_refl _)] at h
        exact h.most)
      have HB : Hid ((la, ls) = best S b L (0, own)) := Lib.hid (by
        have h := HPK.out.best
        rw [List.take_of_length_le (by rw [← HN.out]; exact Nat.le_refl _)] at h
        exact h)
      have hcr := HPK.out.crowd.lt
      have HLS : Hid (ls.size ≤ 281474976710656) := Lib.hid (by have h := HFIT.out S b; rw [← HB.out] at h; exact h)
      have c0 : wr.cell? ⟨b4, 0, none⟩ = some (.bool (S 0)) := cell_of_obj HX4.out rfl
      have c1 : wr.cell? ⟨b4, 1, none⟩ = some (.bool (S 1)) := cell_of_obj HX4.out rfl
      have c2 : wr.cell? ⟨b4, 2, none⟩ = some (.bool (S 2)) := cell_of_obj HX4.out rfl
      have c3 : wr.cell? ⟨b4, 3, none⟩ = some (.bool (S 3)) := cell_of_obj HX4.out rfl
      have c4 : wr.cell? ⟨b4, 4, none⟩ = some (.bool (S 4)) := cell_of_obj HX4.out rfl
      have c5 : wr.cell? ⟨b4, 5, none⟩ = some (.bool (S 5)) := cell_of_obj HX4.out rfl
      have c6 : wr.cell? ⟨b4, 6, none⟩ = some (.bool (S 6)) := cell_of_obj HX4.out rfl
      have c7 : wr.cell? ⟨b4, 7, none⟩ = some (.bool (S 7)) := cell_of_obj HX4.out rfl
      go_wp2_with fail
      refine (most_any S cr hcr _).mono ?_
      rintro e w8 ⟨rfl, g8⟩
      rw [HC.out]
      clear hcr c0 c1 c2 c3 c4 c5 c6 c7
      have HX118 := Lib.hid (gr_obj' g8 HX11.out)
      have HG8 := Lib.hid (HGR.out.trans g8)
      clear g8
      have l0 : w8.cell? ⟨b11, 0, none⟩ = some (.int .i64 lw) := cell_of_obj HX118.out rfl
      have l1 : w8.cell? ⟨b11, 1, none⟩ = some (.int .u64 (lb : Int)) := cell_of_obj HX118.out rfl
      have l2 : w8.cell? ⟨b11, 2, none⟩ = some (.int .u64 (la : Int)) := cell_of_obj HX118.out rfl
      have l3 : w8.cell? ⟨b11, 3, none⟩ = some (.string ls) := cell_of_obj HX118.out rfl
      rcases (by cases majB S (crowdP (sameBal b) L) <;> simp : majB S (crowdP (sameBal b) L) = false ∨ majB S (crowdP (sameBal b) L) = true) with hmj | hmj
      · have HR : Hid (pickV (pickO S b L own) = .tuple #[.string ⟨#[]⟩, .bool false]) := Lib.hid (by unfold pickO; rw [hmj]; rfl)
        rw [hmj]
        clear hmj
        go_wp2_with fail
        rw [HR.out]
        exact bodyPost_ret (v := .tuple #[.string ⟨#[]⟩, .bool false]) (by simp [results, Try.results15, go_sem]) rfl ⟨rfl, HG8.out⟩
      · have HR : Hid (pickV (pickO S b L own) = .tuple #[.string ls, .bool true]) := Lib.hid (by unfold pickO; rw [hmj, if_pos rfl, ← HB.out]; rfl)
        rw [hmj]
        clear hmj
        go_wp2_with fail
        refine (clone_any ls HLS.out _).mono ?_
        rintro e w9 ⟨rfl, g9⟩
        go_wp2_with fail
        rw [HR.out]
        exact bodyPost_ret (v := .tuple #[.string ls, .bool true]) (by simp [results, Try.results15, go_sem]) rfl ⟨rfl, HG8.out.trans g9⟩
end Go.Proofs.Ytboonfbbnidmbaa
