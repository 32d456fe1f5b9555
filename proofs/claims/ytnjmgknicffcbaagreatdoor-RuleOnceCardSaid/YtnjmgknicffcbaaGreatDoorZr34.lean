/- Walks over package rule: put, readRule, where they succeed. Walks over package rule: readRule, where it succeeds. -/
import Derived.Test.YtnjmgknicffcbaaGreatDoorZr33
import Derived.Test.YtnjmgknicffcbaaGreatDoorZr12
import Derived.Laws.Rows
namespace Go.Proofs.YtnjmgknicffcbaaGreatDoor
open Go.RowKit Go.Joins
set_option linter.unusedSimpArgs false
set_option linter.unusedVariables false

/-- The field of that name becomes the word. -/
noncomputable def setF (name : ByteArray) (r : RU) (x : ByteArray) : Option RU :=
  if name = sKEY then some { r with key := x } else if name = sOTHER then some { r with other := x }
  else if name = sMIN then (PV.wholeL x.data.toList).map fun n => { r with min := n } else if name = sSTART then (PV.wholeL x.data.toList).map fun n => { r with start := n } else some r
noncomputable def foldR (r : RU) : List (ByteArray × ByteArray) → Option RU
  | [] => some r
  | (n, x) :: t => (setF n r x).bind fun r' => foldR r' t
theorem foldR_append (r : RU) : ∀ (a b : List (ByteArray × ByteArray)), foldR r (a ++ b) = (foldR r a).bind fun r' => foldR r' b
  | [], b => rfl
  | (n, x) :: a, b => by
    show (setF n r x).bind _ = ((setF n r x).bind _).bind _
    cases setF n r x with
    | none => rfl
    | some r' => exact foldR_append r' a b
/-- The first k words go in, and the next one, too. -/
theorem foldR_step {r r2 : RU} {l : List (ByteArray × ByteArray)} (h : foldR r l = some r2) {k : Nat} (hk : k < l.length) {q : RU} (hq : foldR r (l.take k) = some q) : ∃ q', setF l[k].1 q l[k].2 = some q' ∧ foldR r (l.take (k + 1)) = some q' := by
  have e : l = l.take k ++ (l[k] :: l.drop (k + 1)) := by rw [← List.drop_eq_getElem_cons hk, List.take_append_drop]
  rw [e, foldR_append, hq] at h
  have h2 : (setF l[k].1 q l[k].2).bind (fun r' => foldR r' (l.drop (k + 1))) = some r2 := h
  cases hs : setF l[k].1 q l[k].2 with
  | none => rw [hs] at h2; cases h2
  | some q' =>
    refine ⟨q', rfl, ?_⟩
    rw [List.take_add_one, List.getElem?_eq_getElem hk, foldR_append, hq]
    show (setF l[k].1 q l[k].2).bind _ = _
    rw [hs]; rfl
/-- A rule lies in this block, all of it. -/
def RBox (w : World) (b : Nat) (r : RU) : Prop := w.heap[b]? = some (.cells (ruv r) 49 (0, 0))
theorem RBox.gr {w w' : World} {b : Nat} {r : RU} (h : RBox w b r) (g : Gr w w') : RBox w' b r := gr_obj g h
theorem RBox.cell {w : World} {b : Nat} {r : RU} (h : RBox w b r) : RCell w b 0 r := ⟨obj_cell h rfl, obj_cell h rfl, obj_cell h rfl, obj_cell h rfl, obj_cell h rfl⟩
theorem RBox.lt {w : World} {b : Nat} {r : RU} (h : RBox w b r) : b < w.heap.size := (Array.getElem?_eq_some_iff.1 h).1
theorem RBox.free {w : World} {b : Nat} {r : RU} (h : RBox w b r) (i : Nat) : w.frozen? ⟨b, i, none⟩ = false := obj_free h
set_option maxRecDepth 100000 in
set_option maxHeartbeats 1000000 in
theorem put_any (B : Nat) (r r' : RU) (name x : ByteArray) (hs : x.size ≤ 281474976710656) (hset : setF name r x = some r') (w : World) (hp : Laid w) (hb : RBox w B r) :
    Calls Tryz.prog 113 #[.pointer (some ⟨B, 0, none⟩), .string name, .string x] w fun e w' => e = .returned (.bool true) ∧ RBox w' B r' ∧ Kp (some B) w w' := by
  have HB := Lib.hid hb
  have HCL := Lib.hid (fun w => clone_any x hs w)
  have HWH := Lib.hid (fun w hp => whole_any x hs w hp)
  have HP := Lib.hid hp
  clear hb hp
  by_cases n1 : name = sKEY
  · subst n1
    have HR : Hid (({ r with key := x } : RU) = r') := Lib.hid (by simpa [setF] using hset)
    clear hset
    unfold sKEY
    go_enter Tryz.func113, Tryz.ntmps113
    go_wp2_with fail
    refine (HCL.out _).mono ?_
    rintro e w1 ⟨rfl, g⟩
    have HB1 := Lib.hid (HB.out.gr g)
    have HG1 := Lib.hid g
    have c1 := HB1.out.cell.2.1
    have f1 := HB1.out.free 1
    simp only [Nat.zero_add] at c1
    clear g
    go_wp2_with fail
    go_ret
    exact ⟨rfl, by have := set_obj (i := 1) HB1.out (.string x); rw [← HR.out]; exact this, ((Kp.of_gr HG1.out).set (.inr rfl) 1 _)⟩
  by_cases n2 : name = sOTHER
  · subst n2
    have HR : Hid (({ r with other := x } : RU) = r') := Lib.hid (by simpa [setF, n1] using hset)
    clear hset n1
    unfold sOTHER
    go_enter Tryz.func113, Tryz.ntmps113
    go_wp2_with fail
    refine (HCL.out _).mono ?_
    rintro e w1 ⟨rfl, g⟩
    have HB1 := Lib.hid (HB.out.gr g)
    have HG1 := Lib.hid g
    have c1 := HB1.out.cell.2.2.1
    have f1 := HB1.out.free 2
    simp only [Nat.zero_add] at c1
    clear g
    go_wp2_with fail
    go_ret
    exact ⟨rfl, by have := set_obj (i := 2) HB1.out (.string x); rw [← HR.out]; exact this, ((Kp.of_gr HG1.out).set (.inr rfl) 2 _)⟩
  by_cases n3 : name = sMIN
  · subst n3
    cases hw : PV.wholeL x.data.toList with
    | none => rw [setF, if_neg n1, if_neg n2, if_pos rfl, hw] at hset; cases hset
    | some n =>
      have HR : Hid (({ r with min := n } : RU) = r') := Lib.hid (by rw [setF, if_neg n1, if_neg n2, if_pos rfl, hw] at hset; exact Option.some.inj hset)
      have HWH := Lib.hid (fun w hp => by have := HWH.out w hp; rw [hw] at this; exact this)
      have HWH : Hid (∀ w, Laid w → Calls Tryz.prog 149 #[.string x] w fun e w' => e = .returned (.tuple #[.int .i64 n, .bool true]) ∧ Gr w w') := HWH
      clear hset hw n1 n2
      unfold sMIN
      go_enter Tryz.func113, Tryz.ntmps113
      go_wp2_with fail
      refine (HWH.out _ HP.out).mono ?_
      rintro e w1 ⟨rfl, g⟩
      have HB1 := Lib.hid (HB.out.gr g)
      have HG1 := Lib.hid g
      have c1 := HB1.out.cell.2.2.2.1
      have f1 := HB1.out.free 3
      simp only [Nat.zero_add] at c1
      clear g
      go_wp2_with fail
      go_ret
      exact ⟨rfl, by have := set_obj (i := 3) HB1.out (.int .i64 n); rw [← HR.out]; exact this, ((Kp.of_gr HG1.out).set (.inr rfl) 3 _)⟩
  by_cases n4 : name = sSTART
  · subst n4
    cases hw : PV.wholeL x.data.toList with
    | none => rw [setF, if_neg n1, if_neg n2, if_neg n3, if_pos rfl, hw] at hset; cases hset
    | some n =>
      have HR : Hid (({ r with start := n } : RU) = r') := Lib.hid (by rw [setF, if_neg n1, if_neg n2, if_neg n3, if_pos rfl, hw] at hset; exact Option.some.inj hset)
      have HWH := Lib.hid (fun w hp => by have := HWH.out w hp; rw [hw] at this; exact this)
      have HWH : Hid (∀ w, Laid w → Calls Tryz.prog 149 #[.string x] w fun e w' => e = .returned (.tuple #[.int .i64 n, .bool true]) ∧ Gr w w') := HWH
      clear hset hw n1 n2 n3
      unfold sSTART
      go_enter Tryz.func113, Tryz.ntmps113
      go_wp2_with fail
      refine (HWH.out _ HP.out).mono ?_
      rintro e w1 ⟨rfl, g⟩
      have HB1 := Lib.hid (HB.out.gr g)
      have HG1 := Lib.hid g
      have c1 := HB1.out.cell.2.2.2.2
      have f1 := HB1.out.free 4
      simp only [Nat.zero_add] at c1
      clear g
      go_wp2_with fail
      go_ret
      exact ⟨rfl, by have := set_obj (i := 4) HB1.out (.int .i64 n); rw [← HR.out]; exact this, ((Kp.of_gr HG1.out).set (.inr rfl) 4 _)⟩
  · have HR : Hid (r = r') := Lib.hid (by rw [setF, if_neg n1, if_neg n2, if_neg n3, if_neg n4] at hset; exact Option.some.inj hset)
    have lit : ∀ l : List UInt8, (name.toList == l) = eqS name ⟨l.toArray⟩ := fun l => by unfold eqS; rw [ByteArray.toList_eq ⟨l.toArray⟩]
    have t1 : (name.toList == [75, 69, 89]) = false := by rw [lit, eqS_dec]; exact decide_eq_false n1
    have t2 : (name.toList == [79, 84, 72, 69, 82]) = false := by rw [lit, eqS_dec]; exact decide_eq_false n2
    have t3 : (name.toList == [77, 73, 78]) = false := by rw [lit, eqS_dec]; exact decide_eq_false n3
    have t4 : (name.toList == [83, 84, 65, 82, 84]) = false := by rw [lit, eqS_dec]; exact decide_eq_false n4
    clear hset n1 n2 n3 n4 lit
    go_enter Tryz.func113, Tryz.ntmps113
    go_wp2_with fail
    go_ret
    exact ⟨rfl, by rw [← HR.out]; exact HB.out, Kp.refl _ _⟩
end Go.Proofs.YtnjmgknicffcbaaGreatDoor
namespace Go.Proofs.YtnjmgknicffcbaaGreatDoor
open Go.RowKit Go.Joins
set_option linter.unusedSimpArgs false
set_option linter.unusedVariables false

def kR (q : Nat) : RU := ⟨(q : Int) + 1, ⟨#[]⟩, ⟨#[]⟩, 0, 0⟩
/-- The words are a rule's. -/
structure ReadR (ws : List ByteArray) (r : RU) : Prop where
  ex : ∃ q : Nat, q < 10 ∧ ws.headD ⟨#[]⟩ = (names ((q : Int) + 1)).headD ⟨#[]⟩ ∧ (names ((q : Int) + 1)).length = ws.length ∧ foldR (kR q) ((names ((q : Int) + 1)).zip ws) = some r
theorem bneS (n : Int) : (n != n) = false := by simp
theorem names_le (k : Int) : (names k).length ≤ 4 := by
  by_cases h : 1 ≤ k ∧ k ≤ 10
  · rcases k_cases h with rfl | rfl | rfl | rfl | rfl | rfl | rfl | rfl | rfl | rfl <;> decide
  · rw [names_out h]; decide
/-- Where the loop over the words stands. -/
structure RRS (w : World) (bn b0 b1 : Nat) (N : List ByteArray) (r : RU) (wr : World) : Prop where
  gr : Gr w wr
  nm : SBox wr bn N
  res : RBox wr b0 zR
  cur : RBox wr b1 r
theorem RRS.put {w : World} {bn b0 b1 : Nat} {N : List ByteArray} {r r' : RU} {wr w' : World} (h : RRS w bn b0 b1 N r wr) (hle : w.heap.size ≤ b1) (h1 : bn ≠ b1) (h2 : b0 ≠ b1) (k : Kp (some b1) wr w') (hb : RBox w' b1 r') : RRS w bn b0 b1 N r' w' :=
  ⟨Below.trans h.gr (k.below h.gr.size (fun g e => by injection e with e; subst e; exact hle)), kp_obj k h.nm (fun e => h1 (by injection e with e; exact e.symm)), kp_obj k h.res (fun e => h2 (by injection e with e; exact e.symm)), hb⟩
theorem rinfo : (Tryz.prog.info? 49).map (·.size) = some 5 := by kernel_rfl
/-- A rule's five cells written, one by one. -/
theorem set5_box {w : World} {b : Nat} {y : RU} (h : RBox w b y) (x : RU) : RBox (((((w.setCell ⟨b, 0, none⟩ (.int .i64 x.k)).setCell ⟨b, 1, none⟩ (.string x.key)).setCell ⟨b, 2, none⟩ (.string x.other)).setCell ⟨b, 3, none⟩ (.int .i64 x.min)).setCell ⟨b, 4, none⟩ (.int .i64 x.start)) b x :=
  set_obj (i := 4) (set_obj (i := 3) (set_obj (i := 2) (set_obj (i := 1) (set_obj (i := 0) h (.int .i64 x.k)) (.string x.key)) (.string x.other)) (.int .i64 x.min)) (.int .i64 x.start)
theorem set5_gr {w0 w : World} {b : Nat} (g : Gr w0 w) (hb : w0.heap.size ≤ b) (x : RU) : Gr w0 (((((w.setCell ⟨b, 0, none⟩ (.int .i64 x.k)).setCell ⟨b, 1, none⟩ (.string x.key)).setCell ⟨b, 2, none⟩ (.string x.other)).setCell ⟨b, 3, none⟩ (.int .i64 x.min)).setCell ⟨b, 4, none⟩ (.int .i64 x.start)) :=
  Below.setCell (Below.setCell (Below.setCell (Below.setCell (Below.setCell g hb _) hb _) hb _) hb _) hb _
theorem RBox.ld {w : World} {b : Nat} {x : RU} (h : RBox w b x) : (loadVar 49 ⟨b, 0, none⟩).run Tryz.prog w = .ok (.agg (ruv x)) w :=
  run_loadVar_row w b 49 49 (ruv x) (0, 0) _ h Tryz.underlying49 rfl rinfo
set_option maxRecDepth 100000 in
set_option maxHeartbeats 2000000 in
theorem readRule_any (ws : List ByteArray) (r : RU) (hr : ReadR ws r) (hsz : ∀ x ∈ ws, x.size ≤ 281474976710656) (v : Value) (w : World) (hv : SV w v ws) (hp : Laid w) :
    Calls Tryz.prog 64 #[v] w fun e w' => e = .returned (.tuple #[.agg (ruv r), .bool true]) ∧ Gr w w' := by
  obtain ⟨q, hq, hh, hl, hf⟩ := hr.ex
  obtain ⟨A, c, rfl, l1, ⟨l2, _⟩, l3⟩ := hv
  have l2' : c ≤ 9223372036854775807 := l2
  have hnpos := names_pos q hq
  have hn4 := names_le ((q : Int) + 1)
  have hpos : 0 < ws.length := by rw [← hl]; exact hnpos
  have HK := Lib.hid (fun w hp => kindOf_in q hq w hp)
  have HN := Lib.hid (fun w hp => namesOf_in q hq w hp)
  rw [← hh, ← head_getR hpos] at HK
  obtain ⟨b, off, hA, c0⟩ := l3 0 hpos
  simp only [Nat.add_zero] at c0
  obtain ⟨x0, hx0⟩ : ∃ x, x = ws[0] := ⟨_, rfl⟩
  rw [← hx0] at HK c0
  have HX := Lib.hid l3
  have HF := Lib.hid hf
  have HSZ := Lib.hid hsz
  have HP := Lib.hid hp
  obtain ⟨N, hN⟩ : ∃ N, N = names ((q : Int) + 1) := ⟨_, rfl⟩
  rw [← hN] at HN HF hl hn4
  obtain ⟨n, hn⟩ : ∃ n, n = ws.length := ⟨_, rfl⟩
  have HWL := Lib.hid hn
  rw [← hn] at hl hpos l1 ⊢
  rw [hl] at HN
  have HNL := Lib.hid hl
  obtain ⟨cs, hcs⟩ : ∃ cs, cs = (N.map Value.string).toArray := ⟨_, rfl⟩
  have HCS := Lib.hid hcs
  rw [← hcs] at HN
  rw [hl] at hn4
  subst hA
  obtain ⟨W0, hW0, hg0, -⟩ := rubox w zR
  have hz0 : RBox W0 w.heap.size zR := by rw [hW0]; exact heap_allocR _ _ _
  have HG0 := Lib.hid hg0
  have HZ0 := Lib.hid hz0
  have hsz0 : W0.heap.size = w.heap.size + 1 := by rw [hW0]; simp
  have HS0 := Lib.hid hsz0
  have c0' := hg0.cell c0
  have HP0 := Lib.hid (hp.gr hg0)
  have t0 : (0 : Int) < (n : Int) := by omega
  clear hr hl hh hf hsz hx0 hnpos l3 hn hcs hp hsz0 hz0 hN l2
  go_enter Tryz.func64, Tryz.ntmps64
  go_upto_region 1 with (fail)
  change Code.wp Tryz.prog _ _ _ (w.alloc (.cells (ruv zR) 49))
  rw [← hW0]
  clear hW0
  go_upto_region 2 with (refine (HK.out _ HP0.out).mono ?_; rintro e w1 ⟨rfl, g1⟩)
  change Code.wp Tryz.prog _ _ _ (w1.alloc (.cells (ruv (kR q)) 49))
  obtain ⟨W1, hW1, hg1, -⟩ := rubox w1 (kR q)
  have hz1 : RBox W1 w1.heap.size (kR q) := by rw [hW1]; exact heap_allocR _ _ _
  have hs1 : W1.heap.size = w1.heap.size + 1 := by rw [hW1]; simp
  rw [← hW1]
  have HG1 := Lib.hid (HG0.out.trans (g1.trans hg1))
  have HZ1 := Lib.hid hz1
  have HY1 := Lib.hid ((HZ0.out.gr g1).gr hg1)
  have HP1 := Lib.hid (HP.out.gr HG1.out)
  have HS1 := Lib.hid hs1
  have hb01 : w.heap.size < w1.heap.size := by have := g1.size; have := HS0.out; omega
  have HLT := Lib.hid hb01
  obtain ⟨b1, hb1⟩ : ∃ b1, b1 = w1.heap.size := ⟨_, rfl⟩
  rw [← hb1] at HZ1 HLT HS1 ⊢
  have k0 : W1.cell? ⟨b1, 0, none⟩ = some (.int .i64 ((q : Int) + 1)) := HZ1.out.cell.1
  clear hW1 hg1 hz1 g1 hs1 hb01 hb1 c0 c0'
  go_wp2_with fail
  refine (HN.out _ HP1.out).mono ?_
  rintro e w2 ⟨rfl, rfl⟩
  obtain ⟨W2, hW2⟩ : ∃ W2, W2 = W1.alloc (.cells cs 9) := ⟨_, rfl⟩
  obtain ⟨bn, hbn⟩ : ∃ bn, bn = W1.heap.size := ⟨_, rfl⟩
  have hst : RRS w bn w.heap.size b1 N (kR q) W2 := by
    have g : Gr W1 W2 := by rw [hW2]; exact (Gr.refl _).alloc _
    refine ⟨HG1.out.trans g, ?_, HY1.out.gr g, HZ1.out.gr g⟩
    rw [hW2, hbn, HCS.out]
    exact SBox.made _ _
  have hbn1 : b1 < bn := by have := HS1.out; omega
  rw [← hW2, ← hbn]
  have HB := Lib.hid hbn1
  have HST := Lib.hid hst
  have tn := bneS (n : Int)
  clear hW2 hbn hst hbn1 k0
  go_wp2_with fail
  go_loopw [6, 7, 24] (fun s6 s7 i wr => ∃ (j : Nat) (x : RU), j ≤ n ∧ i = .int .i64 (j : Int) ∧ foldR (kR q) ((N.zip ws).take j) = some x ∧ RRS w bn w.heap.size b1 N x wr) (fun s6 s7 i _ => n - (intOf i).toNat)
  case atStart => exact ⟨0, _, Nat.zero_le _, rfl, rfl, HST.out⟩
  case round =>
    clear HST
    obtain ⟨j, x, hj, rfl, hfx, hst⟩ := hrel
    have HST := Lib.hid hst
    have HFX := Lib.hid hfx
    by_cases hlt : j < n
    · have hjw : j < ws.length := by rw [← HWL.out]; exact hlt
      have hjn : j < N.length := by rw [HNL.out]; exact hlt
      have hjz : j < (N.zip ws).length := by rw [List.length_zip]; omega
      obtain ⟨x2, hs2, hf2⟩ := foldR_step HF.out hjz hfx
      rw [List.getElem_zip] at hs2
      obtain ⟨b', off', hA, cw⟩ := HX.out j hjw
      injection hA with hA
      injection hA with e1 e2
      subst e1 e2
      have cw2 := hst.gr.cell cw
      clear cw
      have cn := hst.nm.cell hjn
      obtain ⟨nm, hnm⟩ : ∃ y, y = N[j] := ⟨_, rfl⟩
      obtain ⟨wd, hwd⟩ : ∃ y, y = ws[j] := ⟨_, rfl⟩
      have hwsz : wd.size ≤ 281474976710656 := by rw [hwd]; exact HSZ.out _ (List.getElem_mem hjw)
      simp only [← hnm, ← hwd] at hs2 cw2 cn
      have HPU := Lib.hid (put_any b1 x x2 nm wd hwsz hs2 wr (HP.out.gr hst.gr) hst.cur)
      have HF2 := Lib.hid hf2
      have t1 : (j : Int) < (n : Int) := by omega
      have t2 : (0 : Int) ≤ (j : Int) := by omega
      have t3 : wrap64 ((j : Int) + 1) = ((j + 1 : Nat) : Int) := by unfold wrap64; omega
      clear hst hfx hf2 hs2 hnm hwd hwsz hjw hjn hjz
      go_wp2_with fail
      refine HPU.out.mono ?_
      rintro e w3 ⟨rfl, hb3, k3⟩
      have HST2 := Lib.hid (HST.out.put (by have := HLT.out; omega) (by have := HB.out; omega) (by have := HLT.out; omega) k3 hb3)
      clear hb3 k3 cw2 cn
      go_wp2_with fail
      go_roundw
      case rel => exact ⟨j + 1, x2, by omega, by go_num, HF2.out, HST2.out⟩
      case measure => simp [intOf]; omega
    · have HE : Hid (x = r) := Lib.hid (by
        have hl : (N.zip ws).length ≤ j := by rw [List.length_zip, HNL.out, ← HWL.out]; omega
        rw [List.take_of_length_le hl, HF.out] at hfx
        exact (Option.some.inj hfx).symm)
      obtain ⟨r0, r1, r2, r3, r4⟩ := hst.cur.cell
      obtain ⟨z0, z1, z2, z3, z4⟩ := hst.res.cell
      have f0 := hst.res.free 0
      have f1 := hst.res.free 1
      have f2 := hst.res.free 2
      have f3 := hst.res.free 3
      have f4 := hst.res.free 4
      simp only [Nat.zero_add] at r0 r1 r2 r3 r4 z0 z1 z2 z3 z4
      have t1 : ¬ (j : Int) < (n : Int) := by omega
      have HSR := Lib.hid hst.res
      have HGW := Lib.hid hst.gr
      clear hst hfx
      go_wp2_with fail
      obtain ⟨wf, hwf, hbx, hgf⟩ : ∃ wf, wf = (((((wr.setCell ⟨w.heap.size, 0, none⟩ (.int .i64 x.k)).setCell ⟨w.heap.size, 1, none⟩ (.string x.key)).setCell ⟨w.heap.size, 2, none⟩ (.string x.other)).setCell ⟨w.heap.size, 3, none⟩ (.int .i64 x.min)).setCell ⟨w.heap.size, 4, none⟩ (.int .i64 x.start)) ∧ RBox wf w.heap.size x ∧ Gr w wf := ⟨_, rfl, set5_box HSR.out x, set5_gr HGW.out (Nat.le_refl _) x⟩
      rw [← hwf]
      have hld := hbx.ld
      rw [HE.out] at hld
      exact bodyPost_ret (v := .tuple #[.agg (ruv r), .bool true]) (by simp [results, Tryz.results64, asAddr, hld]) rfl ⟨rfl, hgf⟩
end Go.Proofs.YtnjmgknicffcbaaGreatDoor
