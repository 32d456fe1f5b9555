/- The law VoteOne. -/
import Derived.Test.YtboonfbbnidmbaaVoQ
import Derived.Test.YtboonfbbnidmbaaVoR
import Derived.Laws.BytesArg
namespace Go.Proofs.Ytboonfbbnidmbaa
open Go.RowKit Vo
set_option linter.unusedSimpArgs false
set_option linter.unusedVariables false

theorem boxA (w : World) : ∃ W, W = w.alloc (.cells #[.int .u64 0, .int .u64 0, .string ⟨#[]⟩, .int .u64 0, .int .u64 0, .string ⟨#[]⟩, .int .u64 0, .int .u64 0, .string ⟨#[]⟩, .int .u64 0, .int .u64 0, .string ⟨#[]⟩, .int .u64 0, .int .u64 0, .string ⟨#[]⟩, .int .u64 0, .int .u64 0, .string ⟨#[]⟩, .int .u64 0, .int .u64 0, .string ⟨#[]⟩, .int .u64 0, .int .u64 0, .string ⟨#[]⟩] 37) ∧ Gr w W ∧ AccBox W w.heap.size (fun _ => noAc) :=
  ⟨_, rfl, (Gr.refl w).alloc _, (MapKept.heap_alloc w _).1⟩
/-- What VoteOne's loop keeps. -/
def OneRel (S : Nat → Bool) (w : World) (B b2 b5 n : Nat) (va vs i : Value) (wr : World) : Prop :=
  ∃ (t : Nat) (p : Pl) (R : List AV), i = .int .i64 ((3 * t : Nat) : Int) ∧ t ≤ 200 ∧ Inv S p ∧ FitP p t ∧ PlM wr B b5 p R va vs ∧ SetAt S w b2 wr
theorem setAt_kp {S : Nat → Bool} {w w1 w2 : World} {b : Nat} {r : Option Nat} (h : SetAt S w b w1) (g : Gr w w2) (k : w1.grownBy w2 r) (hr : some b ≠ r) : SetAt S w b w2 := by
  have kk : Kp r w1 w2 := k
  obtain ⟨⟨h0, h1, h2, h3, h4, h5, h6, h7⟩, _⟩ := h
  exact ⟨⟨kk.cell h0 hr, kk.cell h1 hr, kk.cell h2 hr, kk.cell h3 hr, kk.cell h4 hr, kk.cell h5 hr, kk.cell h6 hr, kk.cell h7 hr⟩, g⟩
theorem conv26 (w : World) (z : Nat) : (convert 36 9 (.slice (some ⟨w.heap.size, 0, none⟩) 1 1)).run Try.prog (w.alloc (.cells #[.int .u8 (97 + (z : Int) % 26)] 5)) = .ok (.string (own26 z)) (w.alloc (.cells #[.int .u8 (97 + (z : Int) % 26)] 5)) := by
  have h := run_convert_bytes_arg (P := Try.prog) (w.alloc (.cells #[.int .u8 (97 + (z : Int) % 26)] 5)) 36 5 Try.underlying36 Try.underlying5 w.heap.size 0 1 1 [97 + (z : Int) % 26] rfl (fun i hi => by
    have e : i = 0 := by omega
    subst e
    exact cell_of_obj (MapKept.heap_alloc w _).1 rfl) 9 Try.underlying9
  rw [h]
  have e : (97 + (z : Int) % 26).toNat = 97 + z % 26 := by omega
  unfold strOfNums own26
  simp [e]
/-- One asking more, in the walk. -/
theorem wpList_push_ask {W : World} {ops : Array Oper} {rest : List Oper} {o : Oper} {a : Act} {Q : Exit → Act → World → Prop} (hgd : o.guard = none) (s x : Operand) (ho : o.op = .call { callee := .builtin .append, args := #[s, x], argTypes := #[38, 38] })
    (B : Nat) (v : Value) (R : List AV) (hs : a.eval s = v) (hown : AskO W B v R) (u : AV) (bn : Nat) (hx : a.eval x = .slice (some ⟨bn, 0, none⟩) 1 1) (hc : W.heap[bn]? = some (.cells (askc u).toArray 41 (0, 0))) (hlen : (R.length + 1) * 72 ≤ 140737488355328) (hB : B ≤ W.heap.size) (N : Nat) (hN : R.length + 1 = N)
    (h : ∀ A c w', AskO w' B (.slice A N c) (R ++ [u]) → W.grownBy w' v.ownBlock → wpList Try.prog ops Q rest (a.put o.dst (.slice A N c)) w') : wpList Try.prog ops Q (o :: rest) a W := by
  obtain ⟨i0, hi, hz0, hz1, hz2⟩ := info_parts infoAsk
  have hone : SL W 5 (.slice (some ⟨bn, 0, none⟩) 1 1) 1 (askcs [u]) := ⟨_, 1, rfl, Nat.le_refl _, ⟨by decide, fun e => by cases e⟩, rfl, fun j y hj => ⟨bn, 0, rfl, by
    rw [Nat.zero_add]
    refine cell_of_obj hc ?_
    rw [List.getElem?_toArray]
    unfold askcs at hj
    simpa using hj⟩⟩
  refine wpList_append_sl W hgd s x 38 ho B 41 i0 _ 5 72 Try.underlying38 hi hz0 hz1 hz2 rfl (by decide) v R.length (askcs R) hs hown (.slice (some ⟨bn, 0, none⟩) 1 1) 1 (askcs [u]) hx hone (askcs_one [u]) (by unfold maxLen; omega) hlen hB N hN ?_
  intro A' c' w' hown' hgr _
  refine h A' c' w' ?_ hgr
  unfold AskO
  rw [List.length_append, List.length_singleton, hN]
  unfold askcs at hown' ⊢
  rw [List.flatMap_append]
  exact hown'
section
variable {ops : Array Oper} {o : Oper} {a : Act} {K : Act → World → Prop} {Q : Exit → Act → World → Prop} {E : Prop} {W : World}
/-- One vote more, as a step of a region that draws its order. -/
theorem step_push_vt (hgd : o.guard = none) (s x : Operand) (ho : o.op = .call { callee := .builtin .append, args := #[s, x], argTypes := #[39, 39] })
    (B : Nat) (v : Value) (L : List Vt) (hs : a.eval s = v) (hown : VO W B v L) (u : Vt) (bn : Nat) (hx : a.eval x = .slice (some ⟨bn, 0, none⟩) 1 1) (hc : W.heap[bn]? = some (.cells (vtA u.who u.bal u.at' u.val) 44 (0, 0))) (hlen : (L.length + 1) * 40 ≤ 140737488355328) (hB : B ≤ W.heap.size) (N : Nat) (hN : L.length + 1 = N)
    (h : ∀ A c w', VO w' B (.slice A N c) (L ++ [u]) → W.grownBy w' v.ownBlock → ((Value.slice A N c).ownBlock = v.ownBlock ∨ (Value.slice A N c).ownBlock = some W.heap.size) → K (a.put o.dst (.slice A N c)) w') :
    if Region.wanted o (yielded ops a.tmps) = true then Oper.wp Try.prog o a W K Q else E := by
  obtain ⟨i0, hi, hz0, hz1, hz2⟩ := info_parts infoVt
  have hone : VV W (.slice (some ⟨bn, 0, none⟩) 1 1) [u] := VV.of (L := [u]) (Nat.le_refl _) (by decide) (fun e => by cases e) (fun j hj => by
    have e : j = 0 := by simpa using hj
    subst e
    exact ⟨bn, 0, rfl, cell_of_obj hc rfl, cell_of_obj hc rfl, cell_of_obj hc rfl, cell_of_obj hc rfl⟩)
  refine step_append_sl W hgd s x 39 ho B 44 i0 _ 4 40 Try.underlying39 hi hz0 hz1 hz2 rfl (by decide) v L.length (vtcs L) hs hown (.slice (some ⟨bn, 0, none⟩) 1 1) 1 (vtcs [u]) hx hone (vtcs_one [u]) (by unfold maxLen; omega) hlen hB N hN ?_
  intro A' c' w' hown' hgr hf
  refine h A' c' w' ?_ hgr hf
  unfold VO
  rw [List.length_append, List.length_singleton, hN]
  unfold vtcs at hown' ⊢
  rw [List.flatMap_append]
  exact hown'
end
theorem own_head {w : World} {B : Nat} {A : Option Addr} {n c : Nat} {R : List AV} (h : AskO w B (.slice A n c) R) (hn : 0 < R.length) : ∃ g, A = some ⟨g, 0, none⟩ := by
  rcases h.2 with ⟨hh, h0⟩ | ⟨g, cap, cur, hh, _⟩
  · omega
  · injection hh with e1 e2 e3
    exact ⟨g, e1⟩
theorem vote_cell {w : World} {B g n c nv k bal ck : Nat} {R : List AV} {own vl : ByteArray} {vts : List Vt} {pk : Bool} {Ak : Option Addr} (h : w.ownsRow B 41 5 (.slice (some ⟨g, 0, none⟩) n c) R.length (askcs R)) (hn : n = R.length) (hk : k < R.length) (hx : R[k] = ⟨⟨bal, own, vts, pk, vl⟩, Ak, ck⟩) (hnv : nv = vts.length) : w.cell? ⟨g, k * 5 + 2, none⟩ = some (.slice Ak nv ck) := by
  subst hn hnv
  rw [h.cellAt (k * 5 + 2) (by have := askcs_len R; omega)]
  have e := rows_at askc 5 askc_len R k 2 hk (by decide)
  rw [hx] at e
  exact e
theorem held8 {w w8 : World} {B g n c nv k bal ck b16 ap aa : Nat} {R : List AV} {own vl sa : ByteArray} {vts : List Vt} {pk : Bool} {Ak : Option Addr} {m : Nat} {xs : List Value} (h : w8.ownsRow B 41 5 (.slice (some ⟨g, 0, none⟩) n c) R.length (askcs R)) (hn : n = R.length) (hk : k < R.length) (hx : R[k] = ⟨⟨bal, own, vts, pk, vl⟩, Ak, ck⟩)
    (hb : w.heap[b16]? = some (.cells (accs ap aa sa) 24 (0, 0))) (hv : w.ownsRow B 44 4 (.slice Ak nv ck) m xs) (kk : w.grownBy w8 (Value.slice Ak nv ck).ownBlock) :
    w8.cell? ⟨g, k * 5, none⟩ = some (.int .u64 (bal : Int)) ∧ w8.cell? ⟨b16, 1, none⟩ = some (.int .u64 (aa : Int)) ∧ w8.cell? ⟨b16, 2, none⟩ = some (.string sa) := by
  subst hn
  have e := rows_at askc 5 askc_len R k 0 hk (by decide)
  rw [hx, Nat.add_zero] at e
  have hb8 : w8.heap[b16]? = some (.cells (accs ap aa sa) 24 (0, 0)) := vkp_obj kk hb (fun q => own_ne_obj hv hb (by decide) q.symm)
  exact ⟨by rw [h.cellAt (k * 5) (by have := askcs_len R; omega)]; exact e, cell_of_obj hb8 rfl, cell_of_obj hb8 rfl⟩
theorem held9 {w8 : World} {g k bal aa b16 : Nat} {sa : ByteArray} {v : Value} (h : w8.cell? ⟨g, k * 5, none⟩ = some (.int .u64 (bal : Int)) ∧ w8.cell? ⟨b16, 1, none⟩ = some (.int .u64 (aa : Int)) ∧ w8.cell? ⟨b16, 2, none⟩ = some (.string sa)) (hk : k * 5 ≠ k * 5 + 2) (hne : b16 ≠ g) :
    (w8.setCell ⟨g, k * 5 + 2, none⟩ v).cell? ⟨g, k * 5, none⟩ = some (.int .u64 (bal : Int)) ∧ (w8.setCell ⟨g, k * 5 + 2, none⟩ v).cell? ⟨b16, 1, none⟩ = some (.int .u64 (aa : Int)) ∧ (w8.setCell ⟨g, k * 5 + 2, none⟩ v).cell? ⟨b16, 2, none⟩ = some (.string sa) := by
  refine ⟨?_, setCell_there h.2.1 hne, setCell_there h.2.2 hne⟩
  rw [World.cell?_setCell_other _ _ _ _ (fun e => by injection e with _ e; omega)]
  exact h.1
theorem own_ne_b16 {w : World} {B g n c b16 m : Nat} {xs : List Value} {cs : Array Value} (h : w.ownsRow B 41 5 (.slice (some ⟨g, 0, none⟩) n c) m xs) (hb : w.heap[b16]? = some (.cells cs 24 (0, 0))) : b16 ≠ g := fun e => by
  subst e
  exact own_ne_obj h hb (by decide) rfl
theorem vote_free {w : World} {B g n c : Nat} {R : List AV} (h : w.ownsRow B 41 5 (.slice (some ⟨g, 0, none⟩) n c) R.length (askcs R)) (hn : n = R.length) (j : Nat) : w.frozen? ⟨g, j, none⟩ = false := by
  subst hn
  exact h.frozenAt j
/-- One vote more for an asking, its parts written out. -/
theorem prep_vote {w w1 W : World} {B b5 g n c nv k bal ck : Nat} {p : Pl} {R : List AV} {vs : Value} {own vl : ByteArray} {vts : List Vt} {pk : Bool} {Ak A' : Option Addr} {c' : Nat} (h : PlM w B b5 p R (.slice (some ⟨g, 0, none⟩) n c) vs) (hn : n = R.length) (hk : k < R.length)
    (hx : R[k] = ⟨⟨bal, own, vts, pk, vl⟩, Ak, ck⟩) (hnv : nv = vts.length) (who : Int) (aa : Nat) (sa : ByteArray) (hv : VO w1 B (.slice A' (nv + 1) c') (vts ++ [⟨who, bal, aa, sa⟩])) (hg : w.grownBy w1 (Value.slice Ak nv ck).ownBlock)
    (hf : (Value.slice A' (nv + 1) c').ownBlock = (Value.slice Ak nv ck).ownBlock ∨ (Value.slice A' (nv + 1) c').ownBlock = some w.heap.size) (hW : W = w1.setCell ⟨g, k * 5 + 2, none⟩ (.slice A' (nv + 1) c')) :
    PlM W B b5 { p with asked := p.asked.set k ⟨bal, own, vts ++ [⟨who, bal, aa, sa⟩], pk, vl⟩ } (R.set k ⟨⟨bal, own, vts ++ [⟨who, bal, aa, sa⟩], pk, vl⟩, A', c'⟩) (.slice (some ⟨g, 0, none⟩) n c) vs ∧ (∀ w0 : World, Gr w0 w → w0.heap.size ≤ B → Gr w0 W) ∧ ∀ x : Nat, x < B → x < w.heap.size → W.heap[x]? = w.heap[x]? := by
  subst hnv
  have hv0 : R[k].v = .slice Ak vts.length ck := by rw [hx]; rfl
  have hl : R[k].q.votes.length = vts.length := by rw [hx]
  have hvk := h.votes _ (List.getElem_mem hk)
  have h1 := h.vote hn hk ⟨who, bal, aa, sa⟩ (A' := A') (c' := c') (W := W) (w1 := w1) (by rw [hl, hx]; exact hv) (by rw [hv0]; exact hg) (by rw [hv0, hl]; exact hf) (by rw [hl]; exact hW)
  rw [hx] at h1
  refine ⟨h1.1, h1.2, fun x hxB hxs => ?_⟩
  have hr : w1.ownsRow B 41 5 (.slice (some ⟨g, 0, none⟩) n c) R.length (askcs R) := own_past h.row hvk (by decide) (by rw [hv0]; exact hg)
  have hgB : B ≤ g := (hr.lt g rfl).1
  rw [hW, Below.heap_setCell w1 ⟨g, k * 5 + 2, none⟩ _ x (by show x ≠ g; omega)]
  have kk : Kp R[k].v.ownBlock w w1 := by rw [hv0]; exact hg
  exact kk.block x hxs (fun e => by have := (hvk.lt x e.symm).1; omega)
theorem setAt_far {S : Nat → Bool} {w w1 w2 : World} {b B : Nat} (h : SetAt S w b w1) (hb : b < B) (k : ∀ x : Nat, x < B → x < w1.heap.size → w2.heap[x]? = w1.heap[x]?) (g : Gr w w2) : SetAt S w b w2 := by
  have key : ∀ (i : Nat) (v : Value), w1.cell? ⟨b, i, none⟩ = some v → w2.cell? ⟨b, i, none⟩ = some v := fun i v hv => by
    have hlt : b < w1.heap.size := by
      rcases Nat.lt_or_ge b w1.heap.size with h | h
      · exact h
      · have hn : w1.heap[b]? = none := by simp; omega
        unfold World.cell? at hv
        rw [hn] at hv
        simp at hv
    have e := k b hb hlt
    unfold World.cell? at hv ⊢
    simp only [e]
    exact hv
  obtain ⟨⟨h0, h1, h2, h3, h4, h5, h6, h7⟩, _⟩ := h
  exact ⟨⟨key _ _ h0, key _ _ h1, key _ _ h2, key _ _ h3, key _ _ h4, key _ _ h5, key _ _ h6, key _ _ h7⟩, g⟩
theorem pick_none {S : Nat → Bool} {p : Pl} {k : Nat} {q : Vo.Ask} (h : pickO S q.bal q.votes q.own = none) : stPick S p k q = p := by
  unfold stPick
  rw [h]
theorem pick_old {S : Nat → Bool} {p : Pl} {k : Nat} {q : Vo.Ask} {x : ByteArray} (h : pickO S q.bal q.votes q.own = some x) (hp : q.picked = true) : stPick S p k q = p := by
  unfold stPick
  rw [h]
  simp only [hp, if_true]
theorem pick_new {S : Nat → Bool} {p : Pl} {k : Nat} {q : Vo.Ask} {x : ByteArray} (h : pickO S q.bal q.votes q.own = some x) (hp : q.picked = false) : stPick S p k q = { p with asked := p.asked.set k { q with picked := true, val := x } } := by
  unfold stPick
  rw [h]
  simp only [hp]
  rfl
theorem acc_unpicked {p : Pl} {who : Nat} {q : Vo.Ask} (hp : q.picked = false) : stAcc p who q = p := by
  unfold stAcc
  rw [hp]
  rfl
theorem acc_no {p : Pl} {who : Nat} {q : Vo.Ask} (h : acB (p.acc who).pr q.bal = false) : stAcc p who q = p := by
  unfold acB at h
  unfold stAcc
  rw [Bool.and_assoc, h, Bool.and_false]
  rfl
theorem acc_yes {p : Pl} {who : Nat} {q : Vo.Ask} (hp : q.picked = true) (h : acB (p.acc who).pr q.bal = true) : stAcc p who q = { p with acc := setF p.acc who ⟨q.bal, q.bal, q.val⟩, said := p.said ++ [⟨(who : Int), q.bal, 0, q.val⟩] } := by
  unfold acB at h
  unfold stAcc
  rw [Bool.and_assoc, h, hp]
  rfl
/-- What was picked, its parts written out. -/
theorem pick_step {w W : World} {B b5 g n c k bal ck : Nat} {p : Pl} {R : List AV} {vs : Value} {own vl : ByteArray} {vts : List Vt} {Ak : Option Addr} (h : PlM w B b5 p R (.slice (some ⟨g, 0, none⟩) n c) vs) (hn : n = R.length) (hk : k < R.length)
    (hx : R[k] = ⟨⟨bal, own, vts, false, vl⟩, Ak, ck⟩) (x : ByteArray) (hW : W = (w.setCell ⟨g, k * 5 + 3, none⟩ (.bool true)).setCell ⟨g, k * 5 + 4, none⟩ (.string x)) :
    PlM W B b5 { p with asked := p.asked.set k ⟨bal, own, vts, true, x⟩ } (R.set k ⟨⟨bal, own, vts, true, x⟩, Ak, ck⟩) (.slice (some ⟨g, 0, none⟩) n c) vs ∧ (∀ w0 : World, Gr w0 w → w0.heap.size ≤ B → Gr w0 W) ∧ ∀ x : Nat, x < B → x < w.heap.size → W.heap[x]? = w.heap[x]? := by
  have h1 := h.pick hn hk x hW
  rw [hx] at h1
  refine ⟨h1.1, h1.2, fun y hyB _ => ?_⟩
  have hgB : B ≤ g := (h.row.lt g rfl).1
  rw [hW, Below.heap_setCell _ ⟨g, k * 5 + 4, none⟩ _ y (by show y ≠ g; omega), Below.heap_setCell w ⟨g, k * 5 + 3, none⟩ _ y (by show y ≠ g; omega)]
set_option maxRecDepth 100000 in
set_option maxHeartbeats 8000000 in
theorem voteOne_any (S : Nat → Bool) (v : Value) (K : List Nat) (w : World) (hv : YB w v K) (hK : ∀ z ∈ K, z < 256) :
    Calls Try.prog 5 #[.agg (setc S), v] w fun e w' => e = .returned (.bool true) ∧ Gr w w' := by
  obtain ⟨W, hW, hg, hX, _⟩ := box_set S w
  obtain ⟨A, c, rfl, h1, h2, h3⟩ := hv.form
  obtain ⟨n, hn⟩ : ∃ n, n = K.length := ⟨_, rfl⟩
  rw [← hn] at h1 ⊢
  have HN := Lib.hid hn
  have HV := Lib.hid h3
  have HKF := Lib.hid hK
  have HG := Lib.hid hg
  have HX := Lib.hid hX
  clear hX hg hv h3 hn hK
  go_enter Try.func5, Try.ntmps5
  go_upto_region 1 with (fail)
  rw [← hW]
  clear hW
  go_wp2_with fail
  refine (awake16_any _).mono ?_
  rintro e w1 ⟨rfl, g1⟩
  have HX1 := Lib.hid (gr_obj' g1 HX.out)
  have HG1 := Lib.hid (HG.out.trans g1)
  clear g1
  go_upto_region 4 with (fail)
  obtain ⟨W2, e2, g2, ha2⟩ := boxA w1
  rw [← e2]
  clear e2
  obtain ⟨b2, hb2⟩ : ∃ z, z = w.heap.size := ⟨_, rfl⟩
  obtain ⟨b5, hb5⟩ : ∃ z, z = w1.heap.size := ⟨_, rfl⟩
  obtain ⟨B, hB⟩ : ∃ z, z = w.heap.size + 1 := ⟨_, rfl⟩
  have HB0 : Hid (w.heap.size ≤ B) := Lib.hid (by omega)
  have HB2 : Hid (b2 < B) := Lib.hid (by omega)
  have HB5 : Hid (B ≤ b5) := Lib.hid (by
    have := (Array.getElem?_eq_some_iff.1 HX1.out).1
    omega)
  have HS2 : Hid (SetAt S w w.heap.size W2) := Lib.hid (keepS ((setAt_of HX1.out).from HG1.out) g2)
  rw [← hb5] at ha2 ⊢
  rw [← hb2] at HS2 ⊢
  have HA2 := Lib.hid ha2
  have HNE : Hid (b2 ≠ b5) := Lib.hid (by rw [hb2, hb5]; exact Nat.ne_of_lt (Array.getElem?_eq_some_iff.1 HX1.out).1)
  clear ha2 g2 hb5 hb2 hB HX HX1
  go_wp2_with fail
  go_loopw [6, 7, 8, 9, 10, 11, 12, 13, 14, 15, 16, 17, 18, 19, 20, 21, 22] (fun va vs i _ _ _ _ _ _ _ _ _ _ _ _ _ _ wr => OneRel S w B b2 b5 n va vs i wr) (fun _ _ i _ _ _ _ _ _ _ _ _ _ _ _ _ _ _ => 603 - (intOf i).toNat)
  case atStart => exact ⟨0, pl0, [], rfl, by decide, inv0 S, fit0, PlM.start HA2.out, HS2.out⟩
  case round =>
    clear HS2 HA2
    obtain ⟨t, p, R, rfl, ht, hI, hF, hP, hS⟩ := hrel
    have HI := Lib.hid hI
    have HF := Lib.hid hF
    have HP := Lib.hid hP
    have HS := Lib.hid hS
    obtain ⟨i, hi⟩ : ∃ i, i = 3 * t := ⟨_, rfl⟩
    rw [← hi]
    have HIT := Lib.hid hi
    obtain ⟨A6, c6, hva, -, -⟩ := own_form hP.row
    obtain ⟨A7, c7, hvs, -, -⟩ := hP.said.form
    subst hva hvs
    obtain ⟨na, hna⟩ : ∃ z, z = R.length := ⟨_, rfl⟩
    obtain ⟨ns, hns⟩ : ∃ z, z = p.said.length := ⟨_, rfl⟩
    rw [← hna, ← hns] at HP ⊢
    have HNA := Lib.hid hna
    have HNS := Lib.hid hns
    have hna2 : na ≤ 200 := by rw [hna, ← hP.len]; have := hF.askLen; omega
    have hns2 : ns ≤ 200 := by rw [hns]; have := hF.saidLen; omega
    have hi2 : i ≤ 600 := by omega
    have hi0 : (0 : Int) ≤ (i : Int) := Int.natCast_nonneg _
    have hi3 : (i : Int) ≤ 600 := by omega
    clear hI hF hP hS hi hna hns
    by_cases hlt : i + 2 < n ∧ i < 600
    case neg =>
      as_aux_lemma =>
        have HON : Hid (∀ W, VV W (.slice A7 ns c7) p.said → Calls Try.prog 16 #[.agg (setc S), .slice A7 ns c7] W fun e w' => e = .returned (.bool true) ∧ Gr W w') := Lib.hid (fun W hv => onlyOne_any S _ p.said W hv HF.out.said (by rw [← HNS.out]; omega) (fun x h v hv hne => only_one HI.out h v hv hne))
        have HVS : Hid (VV wr (.slice A7 ns c7) p.said) := Lib.hid HP.out.said.vv
        obtain ⟨⟨c0, c1, c2, c3, c4, c5, c6', c7'⟩, _⟩ := HS.out
        by_cases hlt1 : i + 2 < n
        · have t1 : decide ((i : Int) + 2 < (n : Int)) = true := decide_eq_true (by omega)
          have t2 : decide ((i : Int) < 600) = false := decide_eq_false (by omega)
          clear hlt hlt1
          go_wp2_with fail
          refine (HON.out _ HVS.out).mono ?_
          rintro e w9 ⟨rfl, g9⟩
          have HG9 := Lib.hid (HS.out.2.trans g9)
          clear g9
          go_wp2_with fail
          go_ret
          exact ⟨rfl, HG9.out⟩
        · have t1 : decide ((i : Int) + 2 < (n : Int)) = false := decide_eq_false (by omega)
          clear hlt hlt1
          go_wp2_with fail
          refine (HON.out _ HVS.out).mono ?_
          rintro e w9 ⟨rfl, g9⟩
          have HG9 := Lib.hid (HS.out.2.trans g9)
          clear g9
          go_wp2_with fail
          go_ret
          exact ⟨rfl, HG9.out⟩
    case pos =>
      obtain ⟨hlt1, hlt2⟩ := hlt
      have t1 : decide ((i : Int) + 2 < (n : Int)) = true := decide_eq_true (by omega)
      have t2 : decide ((i : Int) < 600) = true := decide_eq_true (by omega)
      have HT2 : Hid (t < 200) := Lib.hid (by have := HIT.out; omega)
      have hj0 : i < K.length := by rw [← HN.out]; omega
      have hj1 : i + 1 < K.length := by rw [← HN.out]; omega
      have hj2 : i + 2 < K.length := by rw [← HN.out]; omega
      obtain ⟨bv, off, rfl, hm0⟩ := HV.out i hj0
      obtain ⟨bv', off', e', hm1⟩ := HV.out (i + 1) hj1
      injection e' with e'
      injection e' with e1 e2
      subst e1 e2
      obtain ⟨bv', off', e', hm2⟩ := HV.out (i + 2) hj2
      injection e' with e'
      injection e' with e1 e2
      subst e1 e2
      obtain ⟨x0, hx0⟩ : ∃ z, z = K[i] := ⟨_, rfl⟩
      obtain ⟨x1, hx1⟩ : ∃ z, z = K[i + 1] := ⟨_, rfl⟩
      obtain ⟨x2, hx2⟩ : ∃ z, z = K[i + 2] := ⟨_, rfl⟩
      have hb0 : x0 < 256 := by rw [hx0]; exact HKF.out _ (List.getElem_mem hj0)
      have hb1 : x1 < 256 := by rw [hx1]; exact HKF.out _ (List.getElem_mem hj1)
      have hb2 : x2 < 256 := by rw [hx2]; exact HKF.out _ (List.getElem_mem hj2)
      rw [← hx0] at hm0
      rw [← hx1] at hm1
      rw [← hx2] at hm2
      have q0 := HS.out.2.cell hm0
      have q1 := HS.out.2.cell hm1
      have q2 := HS.out.2.cell hm2
      clear hm0 hm1 hm2 hx0 hx1 hx2 hj0 hj1 hj2
      have f1 : (i : Int) + 1 < (n : Int) := by omega
      have f2 : (i : Int) + 2 < (n : Int) := by omega
      have f0 : (i : Int) < (n : Int) := by omega
      have f3 : (0 : Int) ≤ (i : Int) + 1 := by omega
      have f4 : (0 : Int) ≤ (i : Int) + 2 := by omega
      have s1 : ((i : Int) + 1).toNat = i + 1 := by omega
      have s2 : ((i : Int) + 2).toNat = i + 2 := by omega
      have s3 : IntKind.i64.wrap ((i : Int) + 1) = (i : Int) + 1 := IntWalk.i64_in _ (by omega)
      have s4 : IntKind.i64.wrap ((i : Int) + 2) = (i : Int) + 2 := IntWalk.i64_in _ (by omega)
      go_upto_region 9 with (fail)
      refine qRegion (fun w' => w'.cell? ⟨bv, off + i, none⟩ = some (.int .u8 (x0 : Int)) ∧ w'.cell? ⟨bv, off + (i + 1), none⟩ = some (.int .u8 (x1 : Int)) ∧ w'.cell? ⟨bv, off + (i + 2), none⟩ = some (.int .u8 (x2 : Int)) ∧ Gr wr w') (by kernel_rfl) (by kernel_rfl) ⟨(Gr.refl _).drew.cell q0, (Gr.refl _).drew.cell q1, (Gr.refl _).drew.cell q2, (Gr.refl _).drew⟩ ?_
      iterate 21
        refine qTake (by kernel_rfl) ?_
        apply Exists.intro
        refine ⟨fun wq hq => ?_, ?_⟩
        · go_light
          obtain ⟨e0, e1, e2, _⟩ := hq
          go_simp
          try with_reducible rfl
          done
        try simp only [Act.put, List.setIfInBounds_toArray, List.set_cons_zero, List.set_cons_succ]
      refine qNil ?_
      intro w2 hC
      have hg2 := hC.2.2.2
      obtain ⟨what, hwhat⟩ : ∃ z, z = x0 % 4 := ⟨_, rfl⟩
      obtain ⟨who, hwho⟩ : ∃ z, z = x1 % 8 := ⟨_, rfl⟩
      have r0 : (x0 : Int).tmod 4 = (what : Int) := by rw [Int.tmod_eq_emod_of_nonneg (by omega)]; omega
      have r1 : IntKind.i64.wrap ((x1 : Int).tmod 8) = (who : Int) := by
        rw [Int.tmod_eq_emod_of_nonneg (by omega)]
        exact (IntWalk.i64_in _ (by omega)).trans (by omega)
      have r2 : IntKind.i64.wrap (x2 : Int) = (x2 : Int) := IntWalk.i64_in _ (by omega)
      rw [r0, r1, r2]
      have hw4 : what < 4 := by omega
      have hw8 : who < 8 := by omega
      have HP2 := Lib.hid (HP.out.gr hg2)
      have HS2 := Lib.hid (keepS HS.out hg2)
      have HI2 := Lib.hid (inv_step HI.out what who x2 hw8)
      have HF2 := Lib.hid (step_fit (S := S) HF.out HT2.out what who x2 hw8)
      have HLR := Lib.hid HP.out.len
      have HFP := Lib.hid HF.out
      clear hC hg2 r0 r1 r2 hwhat hwho q0 q1 q2 f0 f1 f2 f3 f4 s1 s2 s3 s4 HP HS t1 t2 hlt1 hlt2 hb0 hb1
      by_cases hnew : what = 0 ∨ na = 0
      case pos =>
        have HST : Hid (stStep S p what who x2 = stNew p who x2) := Lib.hid (step_new (hnew.imp (fun h => h) (fun h => by rw [HLR.out, ← HNA.out]; exact h)))
        rw [HST.out] at HI2 HF2
        obtain ⟨bal, hbal⟩ : ∃ z, z = 8 * (1 + na) + who := ⟨_, rfl⟩
        have HBAL : Hid (∀ w : World, Calls Try.prog 9 #[.int .u64 (1 + (na : Int)), .int .i64 (who : Int)] w fun e w' => e = .returned (.tuple #[.int .u64 (bal : Int), .int .i64 0]) ∧ Gr w w') := Lib.hid (fun w => by
          have h := ballot_yes (1 + na) who (by omega) (by omega) hw8 w
          rw [← hbal] at h
          rw [show ((1 + na : Nat) : Int) = 1 + (na : Int) by omega] at h
          exact h)
        have HBV := Lib.hid hbal
        have g1 : (na : Int) ≤ 200 := by omega
        have g2 : (0 : Int) ≤ (na : Int) := by omega
        have g3 : (x2 : Int) < 256 := by omega
        have g4 : (0 : Int) ≤ (x2 : Int) := by omega
        clear hbal
        rcases Nat.eq_zero_or_pos what with hz | hz
        · subst hz
          clear hnew
          go_upto_region 11 with (fail)
          go_wp2_with fail
          refine (HBAL.out _).mono ?_
          rintro e w3 ⟨rfl, gb⟩
          have HP3 := Lib.hid (HP2.out.gr gb)
          have HS3 := Lib.hid (keepS HS2.out gb)
          clear gb
          go_upto_region 14 with (fail)
          have hcv := conv26 w3 x2
          obtain ⟨own, hown⟩ : ∃ z, z = own26 x2 := ⟨_, rfl⟩
          rw [← hown] at hcv
          obtain ⟨Wq, hWq⟩ : ∃ z, z = (w3.alloc (.cells #[.int .u8 (97 + (x2 : Int) % 26)] 5)).alloc (.cells #[.int .u64 (bal : Int), .string own, .slice none 0 0, .bool false, .string ⟨#[]⟩] 41) := ⟨_, rfl⟩
          have gq : Gr w3 Wq := by rw [hWq]; exact ((Gr.refl w3).alloc _).alloc _
          obtain ⟨q0, hq0⟩ : ∃ z : Vo.Ask, z = ⟨bal, own, [], false, ⟨#[]⟩⟩ := ⟨_, rfl⟩
          have HQN : Hid (stNew p who x2 = { p with asked := p.asked ++ [q0] }) := Lib.hid (by unfold stNew; rw [hq0, hown, HBV.out, HLR.out, ← HNA.out])
          have HQV : Hid (q0.votes = []) := Lib.hid (by rw [hq0])
          have HBX : Hid (((w3.alloc (.cells #[.int .u8 (97 + (x2 : Int) % 26)] 5)).alloc (.cells #[.int .u64 (bal : Int), .string own, .slice none 0 0, .bool false, .string ⟨#[]⟩] 41)).heap[w3.heap.size + 1]? = some (.cells (askc ⟨q0, none, 0⟩).toArray 41 (0, 0))) := Lib.hid (by
            have h := (MapKept.heap_alloc (w3.alloc (.cells #[.int .u8 (97 + (x2 : Int) % 26)] 5)) (.cells #[.int .u64 (bal : Int), .string own, .slice none 0 0, .bool false, .string ⟨#[]⟩] 41)).1
            have hz : (w3.alloc (.cells #[.int .u8 (97 + (x2 : Int) % 26)] 5)).heap.size = w3.heap.size + 1 := by simp
            rw [hz] at h
            rw [h, hq0]
            rfl)
          have HPQ := Lib.hid (HP3.out.gr gq)
          have HSQ := Lib.hid (keepS HS3.out gq)
          rw [hWq] at HPQ HSQ
          have HROW := Lib.hid HPQ.out.row
          have HLE : Hid ((R.length + 1) * 72 ≤ 140737488355328) := Lib.hid (by rw [← HNA.out]; omega)
          have HBS : Hid (B ≤ ((w3.alloc (.cells #[.int .u8 (97 + (x2 : Int) % 26)] 5)).alloc (.cells #[.int .u64 (bal : Int), .string own, .slice none 0 0, .bool false, .string ⟨#[]⟩] 41)).heap.size) := Lib.hid (Nat.le_trans HB5.out (Nat.le_of_lt (Array.getElem?_eq_some_iff.1 HPQ.out.acc).1))
          clear hq0 hown gq hWq HP3 HS3
          go_wp2_with (at_builtin; refine wpList_push_ask rfl (.tmp 72) (.tmp 81) rfl B (.slice A6 na c6) R rfl HROW.out ⟨q0, none, 0⟩ (w3.heap.size + 1) rfl HBX.out HLE.out HBS.out (na + 1) (by rw [HNA.out]) ?_)
          intro A6' c6' w5 hrow5 hk5
          have HP5 : Hid (PlM w5 B b5 (stNew p who x2) (R ++ [⟨q0, none, 0⟩]) (.slice A6' (na + 1) c6') (.slice A7 ns c7)) := Lib.hid (by rw [HQN.out]; exact HPQ.out.push q0 HQV.out hrow5 hk5)
          have HS5 : Hid (SetAt S w b2 w5) := Lib.hid (setAt_kp HSQ.out (gr_grown HSQ.out.2 HROW.out HB0.out hk5) hk5 (fun e => by have := (HROW.out.lt b2 e.symm).1; have := HB2.out; omega))
          clear hrow5 hk5 hcv
          go_wp2_with fail
          go_roundw
          case measure => simp [intOf]; omega
          case rel => exact ⟨t + 1, _, _, congrArg (Value.int .i64) (by have := HIT.out; omega), by have := HT2.out; omega, HI2.out, HF2.out, HP5.out, HS5.out⟩
        · have u1 : ((what : Int) == 0) = false := by simp; omega
          have u2 : ((na : Int) == 0) = true := by
            have e : na = 0 := by omega
            rw [e]
            rfl
          clear hnew hz
          go_upto_region 11 with (fail)
          clear u1 u2
          go_wp2_with fail
          refine (HBAL.out _).mono ?_
          rintro e w3 ⟨rfl, gb⟩
          have HP3 := Lib.hid (HP2.out.gr gb)
          have HS3 := Lib.hid (keepS HS2.out gb)
          clear gb
          go_upto_region 14 with (fail)
          have hcv := conv26 w3 x2
          obtain ⟨own, hown⟩ : ∃ z, z = own26 x2 := ⟨_, rfl⟩
          rw [← hown] at hcv
          obtain ⟨Wq, hWq⟩ : ∃ z, z = (w3.alloc (.cells #[.int .u8 (97 + (x2 : Int) % 26)] 5)).alloc (.cells #[.int .u64 (bal : Int), .string own, .slice none 0 0, .bool false, .string ⟨#[]⟩] 41) := ⟨_, rfl⟩
          have gq : Gr w3 Wq := by rw [hWq]; exact ((Gr.refl w3).alloc _).alloc _
          obtain ⟨q0, hq0⟩ : ∃ z : Vo.Ask, z = ⟨bal, own, [], false, ⟨#[]⟩⟩ := ⟨_, rfl⟩
          have HQN : Hid (stNew p who x2 = { p with asked := p.asked ++ [q0] }) := Lib.hid (by unfold stNew; rw [hq0, hown, HBV.out, HLR.out, ← HNA.out])
          have HQV : Hid (q0.votes = []) := Lib.hid (by rw [hq0])
          have HBX : Hid (((w3.alloc (.cells #[.int .u8 (97 + (x2 : Int) % 26)] 5)).alloc (.cells #[.int .u64 (bal : Int), .string own, .slice none 0 0, .bool false, .string ⟨#[]⟩] 41)).heap[w3.heap.size + 1]? = some (.cells (askc ⟨q0, none, 0⟩).toArray 41 (0, 0))) := Lib.hid (by
            have h := (MapKept.heap_alloc (w3.alloc (.cells #[.int .u8 (97 + (x2 : Int) % 26)] 5)) (.cells #[.int .u64 (bal : Int), .string own, .slice none 0 0, .bool false, .string ⟨#[]⟩] 41)).1
            have hz : (w3.alloc (.cells #[.int .u8 (97 + (x2 : Int) % 26)] 5)).heap.size = w3.heap.size + 1 := by simp
            rw [hz] at h
            rw [h, hq0]
            rfl)
          have HPQ := Lib.hid (HP3.out.gr gq)
          have HSQ := Lib.hid (keepS HS3.out gq)
          rw [hWq] at HPQ HSQ
          have HROW := Lib.hid HPQ.out.row
          have HLE : Hid ((R.length + 1) * 72 ≤ 140737488355328) := Lib.hid (by rw [← HNA.out]; omega)
          have HBS : Hid (B ≤ ((w3.alloc (.cells #[.int .u8 (97 + (x2 : Int) % 26)] 5)).alloc (.cells #[.int .u64 (bal : Int), .string own, .slice none 0 0, .bool false, .string ⟨#[]⟩] 41)).heap.size) := Lib.hid (Nat.le_trans HB5.out (Nat.le_of_lt (Array.getElem?_eq_some_iff.1 HPQ.out.acc).1))
          clear hq0 hown gq hWq HP3 HS3
          go_wp2_with (at_builtin; refine wpList_push_ask rfl (.tmp 72) (.tmp 81) rfl B (.slice A6 na c6) R rfl HROW.out ⟨q0, none, 0⟩ (w3.heap.size + 1) rfl HBX.out HLE.out HBS.out (na + 1) (by rw [HNA.out]) ?_)
          intro A6' c6' w5 hrow5 hk5
          have HP5 : Hid (PlM w5 B b5 (stNew p who x2) (R ++ [⟨q0, none, 0⟩]) (.slice A6' (na + 1) c6') (.slice A7 ns c7)) := Lib.hid (by rw [HQN.out]; exact HPQ.out.push q0 HQV.out hrow5 hk5)
          have HS5 : Hid (SetAt S w b2 w5) := Lib.hid (setAt_kp HSQ.out (gr_grown HSQ.out.2 HROW.out HB0.out hk5) hk5 (fun e => by have := (HROW.out.lt b2 e.symm).1; have := HB2.out; omega))
          clear hrow5 hk5 hcv
          go_wp2_with fail
          go_roundw
          case measure => simp [intOf]; omega
          case rel => exact ⟨t + 1, _, _, congrArg (Value.int .i64) (by have := HIT.out; omega), by have := HT2.out; omega, HI2.out, HF2.out, HP5.out, HS5.out⟩
      case neg =>
        have hn1 : what ≠ 0 := fun e => hnew (.inl e)
        have hn2 : 0 < na := Nat.pos_of_ne_zero (fun e => hnew (.inr e))
        have HNW : Hid (¬ (what = 0 ∨ p.asked.length = 0)) := Lib.hid (by rw [HLR.out, ← HNA.out]; exact hnew)
        obtain ⟨g, hg6⟩ := own_head HP2.out.row (by rw [← HNA.out]; exact hn2)
        subst hg6
        obtain ⟨k, hk⟩ : ∃ z, z = x2 % na := ⟨_, rfl⟩
        have hkn : k < na := by rw [hk]; exact Nat.mod_lt _ hn2
        have hkR : k < R.length := by rw [← HNA.out]; exact hkn
        have HMD : Hid ((x2 : Int) % (na : Int) = (k : Int)) := Lib.hid (by rw [hk]; exact (Int.natCast_emod x2 na).symm)
        have HMT : Hid ((x2 : Int).tmod (na : Int) = (k : Int)) := Lib.hid (by rw [Int.tmod_eq_emod_of_nonneg (by omega)]; exact HMD.out)
        have HKR := Lib.hid hkR
        obtain ⟨xk, hxk⟩ : ∃ z : AV, z = R[k]'hkR := ⟨_, rfl⟩
        have HGET : Hid (p.asked[x2 % p.asked.length]? = some xk.q) := Lib.hid (by rw [HLR.out, ← HNA.out, ← hk, HP2.out.get hkR, hxk])
        have HKX : Hid (x2 % p.asked.length = k) := Lib.hid (by rw [HLR.out, ← HNA.out, hk])
        have HSO1 : Hid (what = 1 → stStep S p what who x2 = stPrep p who k xk.q) := Lib.hid (fun e => by rw [step_old (S := S) (who := who) HNW.out HGET.out, if_pos e, HKX.out])
        have HSO2 : Hid (what = 2 → stStep S p what who x2 = stPick S p k xk.q) := Lib.hid (fun e => by rw [step_old (S := S) (who := who) HNW.out HGET.out, if_neg (by omega), if_pos e, HKX.out])
        have HSO3 : Hid (what = 3 → stStep S p what who x2 = stAcc p who xk.q) := Lib.hid (fun e => by rw [step_old (S := S) (who := who) HNW.out HGET.out, if_neg (by omega), if_neg (by omega)])
        have HFQ : Hid (xk.q.bal ≤ 2000 ∧ xk.q.bal ≠ 0 ∧ SzOk xk.q.own ∧ SzOk xk.q.val ∧ xk.q.votes.length ≤ t ∧ ∀ v ∈ xk.q.votes, FitVt v) := Lib.hid (HFP.out.ask _ (by rw [HP2.out.asked, hxk]; exact List.mem_map_of_mem (List.getElem_mem hkR)))
        have HVO : Hid (VO w2 B xk.v xk.q.votes) := Lib.hid (by rw [hxk]; exact HP2.out.votes _ (List.getElem_mem hkR))
        obtain ⟨q0, q1, q2, q3, q4, q5⟩ := HP2.out.cells HNA.out hkR
        rw [← hxk] at q0 q1 q2 q3 q4
        have HXK : Hid (R[k]'HKR.out = xk) := Lib.hid hxk.symm
        clear hxk hkR hnew hk
        obtain ⟨⟨bal, own, vts, pk, vl⟩, Ak, ck⟩ := xk
        simp only at HFQ HVO HSO1 HSO2 HSO3
        obtain ⟨nv, hnv⟩ : ∃ z, z = vts.length := ⟨_, rfl⟩
        have q2' : w2.cell? ⟨g, k * 5 + 2, none⟩ = some (.slice Ak nv ck) := by rw [hnv]; exact q2
        have HVO2 : Hid (VO w2 B (.slice Ak nv ck) vts) := Lib.hid (by rw [hnv]; exact HVO.out)
        have HNV := Lib.hid hnv
        simp only at q0 q1 q3 q4
        have hnv2 : nv ≤ 200 := by rw [hnv]; have := HFQ.out.2.2.2.2.1; have := HT2.out; omega
        clear q2 hnv HVO
        obtain ⟨⟨ap, aa, sa⟩, hacc⟩ : ∃ z, z = p.acc who := ⟨_, rfl⟩
        have HAC := Lib.hid hacc
        obtain ⟨a0, a1, a2⟩ := HP2.out.acc.at hw8
        rw [← hacc] at a0 a1 a2
        simp only at a0 a1 a2
        clear hacc
        have HFA : Hid (ap ≤ 2000 ∧ aa ≤ 2000 ∧ SzOk sa) := Lib.hid (by have h := HFP.out.acc who; rw [← HAC.out] at h; exact h)
        have u0 : ((what : Int) == 0) = false := by simp; omega
        have u1 : ((na : Int) == 0) = false := by simp; omega
        have u2 : (0 : Int) < (na : Int) := by omega
        have u3 : (na : Int) ≤ 200 := by omega
        have u4 : (0 : Int) ≤ (x2 : Int) := by omega
        have u5 : (x2 : Int) < 256 := by omega
        have u6 : (k : Int) < (na : Int) := by omega
        have u7 : (0 : Int) ≤ (k : Int) := by omega
        have u8 : (who : Int) < 8 := by omega
        have u9 : (0 : Int) ≤ (who : Int) := by omega
        have v1 := HMD.out
        have v2 := HMT.out
        go_upto_region 17 with (fail)
        clear u0 u1 u2 u3 u4 u5 u6 u7 v1 v2
        rcases (by omega : what = 1 ∨ what = 2 ∨ what = 3) with rfl | rfl | rfl
        · as_aux_lemma =>
            obtain ⟨pN, hpN⟩ : ∃ z, z = prN ap bal := ⟨_, rfl⟩
            obtain ⟨ok, hok⟩ : ∃ z, z = decide (ap < bal) := ⟨_, rfl⟩
            have HPR : Hid (∀ W : World, Calls Try.prog 11 #[acv ap aa sa, .int .u64 (bal : Int)] W fun e w' => ∃ v, e = .returned v ∧ v = .tuple #[acv pN aa sa, .bool ok] ∧ Gr W w') := Lib.hid (fun W => (prepare_any ap aa bal sa HFA.out.2.2 W).mono fun e w' h => ⟨_, h.1, by rw [hpN, hok], h.2⟩)
            have HPN := Lib.hid hpN
            have HOK := Lib.hid hok
            clear hpN hok
            go_upto_region 20 with (fail)
            obtain ⟨W4, h4, g4, hb4⟩ := box_acc ap aa sa w2
            rw [← h4]
            clear h4
            obtain ⟨b16, hb16⟩ : ∃ z, z = w2.heap.size := ⟨_, rfl⟩
            rw [← hb16] at hb4 ⊢
            have HP4 := Lib.hid (HP2.out.gr g4)
            have HS4 := Lib.hid (keepS HS2.out g4)
            have HX4 := Lib.hid hb4
            have HN16 : Hid (some b16 ≠ some b5) := Lib.hid (by
              rw [hb16]
              intro e
              injection e with e
              have := (Array.getElem?_eq_some_iff.1 HP2.out.acc).1
              omega)
            have r0 := g4.cell q0
            have HR0 := Lib.hid r0
            have HVO4 := Lib.hid (HVO2.out.gr g4)
            have HL16 : Hid (b16 < W4.heap.size) := Lib.hid (Array.getElem?_eq_some_iff.1 hb4).1
            clear hb16 q0 q1 q2' q3 q4 q5 a0 a1 a2 r0 g4 hb4
            have HSS : Hid (∀ w' : World, Gr W4 w' → (w'.cell? ⟨g, k * 5, none⟩ = some (.int .u64 (bal : Int)) ∧ w'.cell? ⟨b16, 0, none⟩ = some (.int .u64 (ap : Int)) ∧ w'.cell? ⟨b16, 1, none⟩ = some (.int .u64 (aa : Int)) ∧ w'.cell? ⟨b16, 2, none⟩ = some (.string sa))) := Lib.hid (fun w' h => ⟨h.cell HR0.out, cell_of_obj (gr_obj' h HX4.out) rfl, cell_of_obj (gr_obj' h HX4.out) rfl, cell_of_obj (gr_obj' h HX4.out) rfl⟩)
            go_cut [17, 18] (fun s17 s18 wx => ∃ b17, s17 = .pointer (some ⟨b17, 0, none⟩) ∧ s18 = .bool ok ∧ Hid (wx.heap[b17]? = some (.cells (accs pN aa sa) 24 (0, 0)) ∧ Gr W4 wx))
            case first =>
              refine wp_region_held_drew (S := fun w' => (w'.cell? ⟨g, k * 5, none⟩ = some (.int .u64 (bal : Int)) ∧ w'.cell? ⟨b16, 0, none⟩ = some (.int .u64 (ap : Int)) ∧ w'.cell? ⟨b16, 1, none⟩ = some (.int .u64 (aa : Int)) ∧ w'.cell? ⟨b16, 2, none⟩ = some (.string sa))) (by kernel_rfl) (HSS.out _ (Gr.refl _).drew) (fun hHeld => ?_)
              refine hTake (i := 0) rfl (by kernel_rfl) (by kernel_rfl) (by kernel_rfl) (by kernel_rfl) (by assumption) ?_
              apply Exists.intro
              refine ⟨fun _ _ _ h => h, fun wq hq => ?_, ?_⟩
              · go_light
                obtain ⟨d0, d1, d2, d3⟩ := hq
                go_simp
                try with_reducible rfl
                done
              try simp only [Act.put, List.setIfInBounds_toArray, List.set_cons_zero, List.set_cons_succ, List.getElem_toArray, List.getElem_cons_succ, List.getElem_cons_zero]
              refine hTake (i := 1) rfl (by kernel_rfl) (by kernel_rfl) (by kernel_rfl) (by kernel_rfl) (by assumption) ?_
              apply Exists.intro
              refine ⟨fun _ _ _ h => h, fun wq hq => ?_, ?_⟩
              · go_light
                obtain ⟨d0, d1, d2, d3⟩ := hq
                go_simp
                try with_reducible rfl
                done
              try simp only [Act.put, List.setIfInBounds_toArray, List.set_cons_zero, List.set_cons_succ, List.getElem_toArray, List.getElem_cons_succ, List.getElem_cons_zero]
              refine hTake (i := 2) rfl (by kernel_rfl) (by kernel_rfl) (by kernel_rfl) (by kernel_rfl) (by assumption) ?_
              apply Exists.intro
              refine ⟨fun _ _ _ h => h, fun wq hq => ?_, ?_⟩
              · go_light
                obtain ⟨d0, d1, d2, d3⟩ := hq
                go_simp
                try with_reducible rfl
                done
              try simp only [Act.put, List.setIfInBounds_toArray, List.set_cons_zero, List.set_cons_succ, List.getElem_toArray, List.getElem_cons_succ, List.getElem_cons_zero]
              refine hTake (i := 3) rfl (by kernel_rfl) (by kernel_rfl) (by kernel_rfl) (by kernel_rfl) (by assumption) ?_
              apply Exists.intro
              refine ⟨fun _ _ _ h => h, fun wq hq => ?_, ?_⟩
              · go_light
                obtain ⟨d0, d1, d2, d3⟩ := hq
                go_simp
                try with_reducible rfl
                done
              try simp only [Act.put, List.setIfInBounds_toArray, List.set_cons_zero, List.set_cons_succ, List.getElem_toArray, List.getElem_cons_succ, List.getElem_cons_zero]
              refine hTake (i := 4) rfl (by kernel_rfl) (by kernel_rfl) (by kernel_rfl) (by kernel_rfl) (by assumption) ?_
              apply Exists.intro
              refine ⟨fun _ _ _ h => h, fun wq hq => ?_, ?_⟩
              · go_light
                obtain ⟨d0, d1, d2, d3⟩ := hq
                go_simp
                try with_reducible rfl
                done
              try simp only [Act.put, List.setIfInBounds_toArray, List.set_cons_zero, List.set_cons_succ, List.getElem_toArray, List.getElem_cons_succ, List.getElem_cons_zero]
              have hg7 : Gr W4 W4.drew := (Gr.refl _).drew
              generalize W4.drew = w7 at *
              have HG7 := Lib.hid hg7
              clear hg7 hHeld
              have HCA := Lib.hid (HPR.out w7)
              have HCB := Lib.hid (HPR.out (w7.alloc (.cells #[.int .u64 0, .int .u64 0, .string ⟨#[]⟩] 24)))
              refine wpAnyH_ready (rs := [5, 9]) (by kernel_rfl) (by simp) ?_
              refine AllReadyH.cons rfl (fun K hK => ?_) (AllReadyH.cons rfl (fun K hK => ?_) AllReadyH.nil)
              · refine vstep_call rfl 11 [.tmp 97, .tmp 101] _ rfl [acv ap aa sa, .int .u64 (bal : Int)] rfl (cf_prepare _) HCA.out ?_
                intro v5 w5 h5
                obtain ⟨rfl, g2⟩ := h5
                have hg5 : Gr W4 w5 := HG7.out.trans g2
                have hle : W4.heap.size ≤ w5.heap.size := hg5.size
                have HH5 := HSS.out _ hg5
                refine hK.out _ _ HH5 (fun _ => ?_)
                clear hK K
                try simp only [Act.put, List.setIfInBounds_toArray, List.set_cons_zero, List.set_cons_succ]
                refine hTake (i := 6) rfl (by kernel_rfl) (by kernel_rfl) (by kernel_rfl) (by kernel_rfl) (by assumption) ?_
                apply Exists.intro
                refine ⟨fun _ _ _ h => h, fun wq hq => ?_, ?_⟩
                · go_light
                  go_simp
                  try with_reducible rfl
                  done
                try simp only [Act.put, List.setIfInBounds_toArray, List.set_cons_zero, List.set_cons_succ, List.getElem_toArray, List.getElem_cons_succ, List.getElem_cons_zero]
                refine hTake (i := 7) rfl (by kernel_rfl) (by kernel_rfl) (by kernel_rfl) (by kernel_rfl) (by assumption) ?_
                apply Exists.intro
                refine ⟨fun _ _ _ h => h, fun wq hq => ?_, ?_⟩
                · go_light
                  go_simp
                  try with_reducible rfl
                  done
                try simp only [Act.put, List.setIfInBounds_toArray, List.set_cons_zero, List.set_cons_succ, List.getElem_toArray, List.getElem_cons_succ, List.getElem_cons_zero]
                refine hTake (i := 8) rfl (by kernel_rfl) (by kernel_rfl) (by kernel_rfl) (by kernel_rfl) (by assumption) ?_
                apply Exists.intro
                refine ⟨fun _ _ _ h => h, fun wq hq => ?_, ?_⟩
                · go_light
                  go_simp
                  try with_reducible rfl
                  done
                try simp only [Act.put, List.setIfInBounds_toArray, List.set_cons_zero, List.set_cons_succ, List.getElem_toArray, List.getElem_cons_succ, List.getElem_cons_zero]
                refine wpAnyH_ready (rs := [9]) (by kernel_rfl) (by simp) ?_
                refine AllReadyH.cons rfl (fun K hK => ?_) AllReadyH.nil
                go_simp
                refine hK.out _ _ (HSS.out _ (hg5.alloc _)) (fun _ => ?_)
                clear hK K
                try simp only [Act.put, List.setIfInBounds_toArray, List.set_cons_zero, List.set_cons_succ]
                refine wpAnyH_ready (rs := [10]) (by kernel_rfl) (by simp) ?_
                refine AllReadyH.cons rfl (fun K hK => ?_) AllReadyH.nil
                have hB8 : (w5.alloc (.cells #[.int .u64 0, .int .u64 0, .string ⟨#[]⟩] 24)).heap[w5.heap.size]? = some (.cells acc0 24 (0, 0)) := (MapKept.heap_alloc w5 _).1
                have y0 : (w5.alloc (.cells #[.int .u64 0, .int .u64 0, .string ⟨#[]⟩] 24)).cell? ⟨w5.heap.size, 0, none⟩ = some (.int .u64 0) := cell_of_obj hB8 rfl
                have y1 : (w5.alloc (.cells #[.int .u64 0, .int .u64 0, .string ⟨#[]⟩] 24)).cell? ⟨w5.heap.size, 1, none⟩ = some (.int .u64 0) := cell_of_obj hB8 rfl
                have y2 : (w5.alloc (.cells #[.int .u64 0, .int .u64 0, .string ⟨#[]⟩] 24)).cell? ⟨w5.heap.size, 2, none⟩ = some (.string ⟨#[]⟩) := cell_of_obj hB8 rfl
                have f0 := free_of_obj 0 hB8
                have f1 := free_of_obj 1 hB8
                have f2 := free_of_obj 2 hB8
                go_simp
                first
                | (obtain ⟨W3, h3, hx3, ho3, hg3⟩ := store_acc hB8 pN aa sa
                   have hG3 := hg3 _ (hg5.alloc _) hle
                   rw [← h3]
                   refine hK.out _ _ (HSS.out _ hG3) (fun _ => ?_)
                   clear hK K
                   have HH6 := HSS.out _ hG3
                   refine hTake (i := 11) rfl (by kernel_rfl) (by kernel_rfl) (by kernel_rfl) (by kernel_rfl) (by assumption) ?_
                   apply Exists.intro
                   refine ⟨fun _ _ _ h => h, fun wq hq => ?_, ?_⟩
                   · go_light
                     go_simp
                     try with_reducible rfl
                     done
                   try simp only [Act.put, List.setIfInBounds_toArray, List.set_cons_zero, List.set_cons_succ, List.getElem_toArray, List.getElem_cons_succ, List.getElem_cons_zero]
                   refine wpAnyH_done (by kernel_rfl) ?_ _
                   go_wp2
                   go_meet
                   exact ⟨w5.heap.size, rfl, rfl, Lib.hid (by first | exact ⟨hx3, hG3⟩ | (rw [← h3]; exact ⟨hx3, hG3⟩))⟩)
                | (have hx3 := (MapKept.heap_alloc w5 (.cells (accs pN aa sa) 24)).1
                   have hG3 := hg5.alloc (.cells (accs pN aa sa) 24)
                   refine hK.out _ _ (HSS.out _ hG3) (fun _ => ?_)
                   clear hK K
                   have HH6 := HSS.out _ hG3
                   refine hTake (i := 11) rfl (by kernel_rfl) (by kernel_rfl) (by kernel_rfl) (by kernel_rfl) (by assumption) ?_
                   apply Exists.intro
                   refine ⟨fun _ _ _ h => h, fun wq hq => ?_, ?_⟩
                   · go_light
                     go_simp
                     try with_reducible rfl
                     done
                   try simp only [Act.put, List.setIfInBounds_toArray, List.set_cons_zero, List.set_cons_succ, List.getElem_toArray, List.getElem_cons_succ, List.getElem_cons_zero]
                   refine wpAnyH_done (by kernel_rfl) ?_ _
                   go_wp2
                   go_meet
                   exact ⟨w5.heap.size, rfl, rfl, Lib.hid (by first | exact ⟨hx3, hG3⟩ | (rw [← h3]; exact ⟨hx3, hG3⟩))⟩)
              · go_simp
                have hg8 : Gr W4 (w7.alloc (.cells #[.int .u64 0, .int .u64 0, .string ⟨#[]⟩] 24)) := HG7.out.alloc _
                refine hK.out _ _ (HSS.out _ hg8) (fun _ => ?_)
                clear hK K
                try simp only [Act.put, List.setIfInBounds_toArray, List.set_cons_zero, List.set_cons_succ]
                refine wpAnyH_ready (rs := [5]) (by kernel_rfl) (by simp) ?_
                refine AllReadyH.cons rfl (fun K hK => ?_) AllReadyH.nil
                refine vstep_call rfl 11 [.tmp 97, .tmp 101] _ rfl [acv ap aa sa, .int .u64 (bal : Int)] rfl (cf_prepare _) HCB.out ?_
                intro v5 w5 h5
                obtain ⟨rfl, g2⟩ := h5
                have hg5 : Gr W4 w5 := hg8.trans g2
                have hB8 : w5.heap[w7.heap.size]? = some (.cells acc0 24 (0, 0)) := gr_obj' g2 (MapKept.heap_alloc w7 _).1
                have hle : W4.heap.size ≤ w7.heap.size := HG7.out.size
                have HH5 := HSS.out _ hg5
                refine hK.out _ _ HH5 (fun _ => ?_)
                clear hK K
                try simp only [Act.put, List.setIfInBounds_toArray, List.set_cons_zero, List.set_cons_succ]
                refine hTake (i := 6) rfl (by kernel_rfl) (by kernel_rfl) (by kernel_rfl) (by kernel_rfl) (by assumption) ?_
                apply Exists.intro
                refine ⟨fun _ _ _ h => h, fun wq hq => ?_, ?_⟩
                · go_light
                  go_simp
                  try with_reducible rfl
                  done
                try simp only [Act.put, List.setIfInBounds_toArray, List.set_cons_zero, List.set_cons_succ, List.getElem_toArray, List.getElem_cons_succ, List.getElem_cons_zero]
                refine hTake (i := 7) rfl (by kernel_rfl) (by kernel_rfl) (by kernel_rfl) (by kernel_rfl) (by assumption) ?_
                apply Exists.intro
                refine ⟨fun _ _ _ h => h, fun wq hq => ?_, ?_⟩
                · go_light
                  go_simp
                  try with_reducible rfl
                  done
                try simp only [Act.put, List.setIfInBounds_toArray, List.set_cons_zero, List.set_cons_succ, List.getElem_toArray, List.getElem_cons_succ, List.getElem_cons_zero]
                refine hTake (i := 8) rfl (by kernel_rfl) (by kernel_rfl) (by kernel_rfl) (by kernel_rfl) (by assumption) ?_
                apply Exists.intro
                refine ⟨fun _ _ _ h => h, fun wq hq => ?_, ?_⟩
                · go_light
                  go_simp
                  try with_reducible rfl
                  done
                try simp only [Act.put, List.setIfInBounds_toArray, List.set_cons_zero, List.set_cons_succ, List.getElem_toArray, List.getElem_cons_succ, List.getElem_cons_zero]
                refine wpAnyH_ready (rs := [10]) (by kernel_rfl) (by simp) ?_
                refine AllReadyH.cons rfl (fun K hK => ?_) AllReadyH.nil
                have y0 : w5.cell? ⟨w7.heap.size, 0, none⟩ = some (.int .u64 0) := cell_of_obj hB8 rfl
                have y1 : w5.cell? ⟨w7.heap.size, 1, none⟩ = some (.int .u64 0) := cell_of_obj hB8 rfl
                have y2 : w5.cell? ⟨w7.heap.size, 2, none⟩ = some (.string ⟨#[]⟩) := cell_of_obj hB8 rfl
                have f0 := free_of_obj 0 hB8
                have f1 := free_of_obj 1 hB8
                have f2 := free_of_obj 2 hB8
                go_simp
                obtain ⟨W3, h3, hx3, ho3, hg3⟩ := store_acc hB8 pN aa sa
                have hG3 := hg3 _ hg5 hle
                rw [← h3]
                refine hK.out _ _ (HSS.out _ hG3) (fun _ => ?_)
                clear hK K
                have HH6 := HSS.out _ hG3
                refine hTake (i := 11) rfl (by kernel_rfl) (by kernel_rfl) (by kernel_rfl) (by kernel_rfl) (by assumption) ?_
                apply Exists.intro
                refine ⟨fun _ _ _ h => h, fun wq hq => ?_, ?_⟩
                · go_light
                  go_simp
                  try with_reducible rfl
                  done
                try simp only [Act.put, List.setIfInBounds_toArray, List.set_cons_zero, List.set_cons_succ, List.getElem_toArray, List.getElem_cons_succ, List.getElem_cons_zero]
                refine wpAnyH_done (by kernel_rfl) ?_ _
                go_wp2
                go_meet
                exact ⟨w7.heap.size, rfl, rfl, Lib.hid (by first | exact ⟨hx3, hG3⟩ | (rw [← h3]; exact ⟨hx3, hG3⟩))⟩
            case rest =>
              obtain ⟨b17, rfl, rfl, HC⟩ := hcut
              clear HSS HPR HR0
              have HX17 := Lib.hid HC.out.1
              have HP5 := Lib.hid (HP4.out.gr HC.out.2)
              have HS5 := Lib.hid (keepS HS4.out HC.out.2)
              have HX16 := Lib.hid (gr_obj' HC.out.2 HX4.out)
              have HVO5 := Lib.hid (HVO4.out.gr HC.out.2)
              clear HC HP4 HS4 HX4 HVO4
              rcases (by cases ok <;> simp : ok = false ∨ ok = true) with rfl | rfl
              · have HSP : Hid (stStep S p 1 who x2 = p) := Lib.hid (by
                  rw [HSO1.out (by first | rfl | trivial)]
                  unfold stPrep
                  rw [if_neg]
                  rw [← HAC.out]
                  exact of_decide_eq_false HOK.out.symm)
                have HIN : Hid (Inv S p) := Lib.hid (by have h := HI2.out; rw [HSP.out] at h; exact h)
                have HFN : Hid (FitP p (t + 1)) := Lib.hid (by have h := HF2.out; rw [HSP.out] at h; exact h)
                go_wp2_with fail
                go_roundw
                case measure => simp [intOf]; omega
                case rel => exact ⟨t + 1, p, R, congrArg (Value.int .i64) (by have := HIT.out; omega), by have := HT2.out; omega, HIN.out, HFN.out, HP5.out, HS5.out⟩
              · obtain rfl : pN = bal := by
                  have h := HPN.out
                  unfold prN at h
                  rw [if_pos (of_decide_eq_true HOK.out.symm)] at h
                  exact h
                have n0 : wc.cell? ⟨b17, 0, none⟩ = some (.int .u64 (pN : Int)) := cell_of_obj HX17.out rfl
                have n1 : wc.cell? ⟨b17, 1, none⟩ = some (.int .u64 (aa : Int)) := cell_of_obj HX17.out rfl
                have n2 : wc.cell? ⟨b17, 2, none⟩ = some (.string sa) := cell_of_obj HX17.out rfl
                obtain ⟨a0, a1, a2⟩ := HP5.out.acc.at hw8
                rw [← HAC.out] at a0 a1 a2
                simp only at a0 a1 a2
                have z0 := free_of_obj (who * 3) HP5.out.acc
                have z1 := free_of_obj (who * 3 + 1) HP5.out.acc
                have z2 := free_of_obj (who * 3 + 2) HP5.out.acc
                go_upto_region 23 with (fail)
                obtain ⟨W6, h6, ha6, hk6, hg6⟩ := HP5.out.acc.put hw8 pN aa sa
                rw [← h6]
                clear h6 n0 n1 n2 a0 a1 a2 z0 z1 z2
                have HP6 := Lib.hid (HP5.out.putAcc ha6 hk6)
                have HX66 := Lib.hid (vkp_obj hk6 HX16.out HN16.out)
                have HS6 : Hid (SetAt S w b2 W6) := Lib.hid (setAt_kp HS5.out (hg6 _ HS5.out.2 (Nat.le_trans HB0.out HB5.out)) hk6 (fun e => HNE.out (by injection e)))
                clear ha6 hk6 hg6 HP5 HX16 HX17
                obtain ⟨q0, q1, q2, q3, q4, q5⟩ := HP6.out.cells HNA.out HKR.out
                simp only [HXK.out] at q0 q1 q2 q3 q4
                have q2' : W6.cell? ⟨g, k * 5 + 2, none⟩ = some (.slice Ak nv ck) := by rw [HNV.out]; exact q2
                have d1 : W6.cell? ⟨b16, 1, none⟩ = some (.int .u64 (aa : Int)) := cell_of_obj HX66.out rfl
                have d2 : W6.cell? ⟨b16, 2, none⟩ = some (.string sa) := cell_of_obj HX66.out rfl
                clear q2 q1 q3 q4 q5
                have HSP : Hid (stStep S p 1 who x2 = { p with acc := setF p.acc who ⟨pN, aa, sa⟩, asked := p.asked.set k ⟨pN, own, vts ++ [⟨(who : Int), pN, aa, sa⟩], pk, vl⟩ }) := Lib.hid (by
                  rw [HSO1.out (by first | rfl | trivial)]
                  unfold stPrep
                  rw [if_pos (by rw [← HAC.out]; exact of_decide_eq_true HOK.out.symm), ← HAC.out])
                have HIN : Hid (Inv S { p with acc := setF p.acc who ⟨pN, aa, sa⟩, asked := p.asked.set k ⟨pN, own, vts ++ [⟨(who : Int), pN, aa, sa⟩], pk, vl⟩ }) := Lib.hid (by have h := HI2.out; rw [HSP.out] at h; exact h)
                have HFN : Hid (FitP { p with acc := setF p.acc who ⟨pN, aa, sa⟩, asked := p.asked.set k ⟨pN, own, vts ++ [⟨(who : Int), pN, aa, sa⟩], pk, vl⟩ } (t + 1)) := Lib.hid (by have h := HF2.out; rw [HSP.out] at h; exact h)
                clear HSP HSO1 HSO2 HSO3 HI2 HF2 HGET HNW HKX HFQ HFA HPN HOK
                refine wp_region_held_drew (S := fun w' => w'.cell? ⟨g, k * 5, none⟩ = some (.int .u64 (pN : Int)) ∧ w'.cell? ⟨b16, 1, none⟩ = some (.int .u64 (aa : Int)) ∧ w'.cell? ⟨b16, 2, none⟩ = some (.string sa)) (by kernel_rfl) ⟨(Gr.refl _).drew.cell q0, (Gr.refl _).drew.cell d1, (Gr.refl _).drew.cell d2⟩ (fun hHeld => ?_)
                refine hTake (i := 0) rfl (by kernel_rfl) (by kernel_rfl) (by kernel_rfl) (by kernel_rfl) (by assumption) ?_
                apply Exists.intro
                refine ⟨fun _ _ _ h => h, fun wq hq => ?_, ?_⟩
                · go_light
                  obtain ⟨e0, e1, e2⟩ := hq
                  go_simp
                  try with_reducible rfl
                  done
                try simp only [Act.put, List.setIfInBounds_toArray, List.set_cons_zero, List.set_cons_succ, List.getElem_toArray, List.getElem_cons_succ, List.getElem_cons_zero]
                refine hTake (i := 1) rfl (by kernel_rfl) (by kernel_rfl) (by kernel_rfl) (by kernel_rfl) (by assumption) ?_
                apply Exists.intro
                refine ⟨fun _ _ _ h => h, fun wq hq => ?_, ?_⟩
                · go_light
                  obtain ⟨e0, e1, e2⟩ := hq
                  go_simp
                  try with_reducible rfl
                  done
                try simp only [Act.put, List.setIfInBounds_toArray, List.set_cons_zero, List.set_cons_succ, List.getElem_toArray, List.getElem_cons_succ, List.getElem_cons_zero]
                refine hTake (i := 2) rfl (by kernel_rfl) (by kernel_rfl) (by kernel_rfl) (by kernel_rfl) (by assumption) ?_
                apply Exists.intro
                refine ⟨fun _ _ _ h => h, fun wq hq => ?_, ?_⟩
                · go_light
                  obtain ⟨e0, e1, e2⟩ := hq
                  go_simp
                  try with_reducible rfl
                  done
                try simp only [Act.put, List.setIfInBounds_toArray, List.set_cons_zero, List.set_cons_succ, List.getElem_toArray, List.getElem_cons_succ, List.getElem_cons_zero]
                refine hTake (i := 3) rfl (by kernel_rfl) (by kernel_rfl) (by kernel_rfl) (by kernel_rfl) (by assumption) ?_
                apply Exists.intro
                refine ⟨fun _ _ _ h => h, fun wq hq => ?_, ?_⟩
                · go_light
                  obtain ⟨e0, e1, e2⟩ := hq
                  go_simp
                  try with_reducible rfl
                  done
                try simp only [Act.put, List.setIfInBounds_toArray, List.set_cons_zero, List.set_cons_succ, List.getElem_toArray, List.getElem_cons_succ, List.getElem_cons_zero]
                refine hTake (i := 5) rfl (by kernel_rfl) (by kernel_rfl) (by kernel_rfl) (by kernel_rfl) (by assumption) ?_
                apply Exists.intro
                refine ⟨fun _ _ _ h => h, fun wq hq => ?_, ?_⟩
                · go_light
                  obtain ⟨e0, e1, e2⟩ := hq
                  go_simp
                  try with_reducible rfl
                  done
                try simp only [Act.put, List.setIfInBounds_toArray, List.set_cons_zero, List.set_cons_succ, List.getElem_toArray, List.getElem_cons_succ, List.getElem_cons_zero]
                refine hTake (i := 6) rfl (by kernel_rfl) (by kernel_rfl) (by kernel_rfl) (by kernel_rfl) (by assumption) ?_
                apply Exists.intro
                refine ⟨fun _ _ _ h => h, fun wq hq => ?_, ?_⟩
                · go_light
                  obtain ⟨e0, e1, e2⟩ := hq
                  go_simp
                  try with_reducible rfl
                  done
                try simp only [Act.put, List.setIfInBounds_toArray, List.set_cons_zero, List.set_cons_succ, List.getElem_toArray, List.getElem_cons_succ, List.getElem_cons_zero]
                refine hTake (i := 7) rfl (by kernel_rfl) (by kernel_rfl) (by kernel_rfl) (by kernel_rfl) (by assumption) ?_
                apply Exists.intro
                refine ⟨fun _ _ _ h => h, fun wq hq => ?_, ?_⟩
                · go_light
                  obtain ⟨e0, e1, e2⟩ := hq
                  go_simp
                  try with_reducible rfl
                  done
                try simp only [Act.put, List.setIfInBounds_toArray, List.set_cons_zero, List.set_cons_succ, List.getElem_toArray, List.getElem_cons_succ, List.getElem_cons_zero]
                refine hTake (i := 8) rfl (by kernel_rfl) (by kernel_rfl) (by kernel_rfl) (by kernel_rfl) (by assumption) ?_
                apply Exists.intro
                refine ⟨fun _ _ _ h => h, fun wq hq => ?_, ?_⟩
                · go_light
                  obtain ⟨e0, e1, e2⟩ := hq
                  go_simp
                  try with_reducible rfl
                  done
                try simp only [Act.put, List.setIfInBounds_toArray, List.set_cons_zero, List.set_cons_succ, List.getElem_toArray, List.getElem_cons_succ, List.getElem_cons_zero]
                refine hTake (i := 9) rfl (by kernel_rfl) (by kernel_rfl) (by kernel_rfl) (by kernel_rfl) (by assumption) ?_
                apply Exists.intro
                refine ⟨fun _ _ _ h => h, fun wq hq => ?_, ?_⟩
                · go_light
                  obtain ⟨e0, e1, e2⟩ := hq
                  go_simp
                  try with_reducible rfl
                  done
                try simp only [Act.put, List.setIfInBounds_toArray, List.set_cons_zero, List.set_cons_succ, List.getElem_toArray, List.getElem_cons_succ, List.getElem_cons_zero]
                refine hTake (i := 10) rfl (by kernel_rfl) (by kernel_rfl) (by kernel_rfl) (by kernel_rfl) (by assumption) ?_
                apply Exists.intro
                refine ⟨fun _ _ _ h => h, fun wq hq => ?_, ?_⟩
                · go_light
                  obtain ⟨e0, e1, e2⟩ := hq
                  go_simp
                  try with_reducible rfl
                  done
                try simp only [Act.put, List.setIfInBounds_toArray, List.set_cons_zero, List.set_cons_succ, List.getElem_toArray, List.getElem_cons_succ, List.getElem_cons_zero]
                refine hTake (i := 11) rfl (by kernel_rfl) (by kernel_rfl) (by kernel_rfl) (by kernel_rfl) (by assumption) ?_
                apply Exists.intro
                refine ⟨fun _ _ _ h => h, fun wq hq => ?_, ?_⟩
                · go_light
                  obtain ⟨e0, e1, e2⟩ := hq
                  go_simp
                  try with_reducible rfl
                  done
                try simp only [Act.put, List.setIfInBounds_toArray, List.set_cons_zero, List.set_cons_succ, List.getElem_toArray, List.getElem_cons_succ, List.getElem_cons_zero]
                refine hTake (i := 12) rfl (by kernel_rfl) (by kernel_rfl) (by kernel_rfl) (by kernel_rfl) (by assumption) ?_
                apply Exists.intro
                refine ⟨fun _ _ _ h => h, fun wq hq => ?_, ?_⟩
                · go_light
                  obtain ⟨e0, e1, e2⟩ := hq
                  go_simp
                  try with_reducible rfl
                  done
                try simp only [Act.put, List.setIfInBounds_toArray, List.set_cons_zero, List.set_cons_succ, List.getElem_toArray, List.getElem_cons_succ, List.getElem_cons_zero]
                refine hTake (i := 13) rfl (by kernel_rfl) (by kernel_rfl) (by kernel_rfl) (by kernel_rfl) (by assumption) ?_
                apply Exists.intro
                refine ⟨fun _ _ _ h => h, fun wq hq => ?_, ?_⟩
                · go_light
                  obtain ⟨e0, e1, e2⟩ := hq
                  go_simp
                  try with_reducible rfl
                  done
                try simp only [Act.put, List.setIfInBounds_toArray, List.set_cons_zero, List.set_cons_succ, List.getElem_toArray, List.getElem_cons_succ, List.getElem_cons_zero]
                refine hTake (i := 14) rfl (by kernel_rfl) (by kernel_rfl) (by kernel_rfl) (by kernel_rfl) (by assumption) ?_
                apply Exists.intro
                refine ⟨fun _ _ _ h => h, fun wq hq => ?_, ?_⟩
                · go_light
                  obtain ⟨e0, e1, e2⟩ := hq
                  go_simp
                  try with_reducible rfl
                  done
                try simp only [Act.put, List.setIfInBounds_toArray, List.set_cons_zero, List.set_cons_succ, List.getElem_toArray, List.getElem_cons_succ, List.getElem_cons_zero]
                have hg7 : Gr W6 W6.drew := (Gr.refl _).drew
                generalize W6.drew = w7 at *
                have HG7 := Lib.hid hg7
                have HQ2 := Lib.hid (hg7.cell q2')
                have HH7 := Lib.hid hHeld
                clear hg7 q0 q2' d1 d2 hHeld
                have gb : Gr w7 (w7.alloc (.cells (vtA (who : Int) pN aa sa) 44)) := gr_box _ _
                have HPB := Lib.hid (HP6.out.gr (HG7.out.trans gb))
                have HSB := Lib.hid (keepS HS6.out (HG7.out.trans gb))
                have HHB : Hid ((w7.alloc (.cells (vtA (who : Int) pN aa sa) 44)).cell? ⟨g, k * 5, none⟩ = some (.int .u64 (pN : Int)) ∧ (w7.alloc (.cells (vtA (who : Int) pN aa sa) 44)).cell? ⟨b16, 1, none⟩ = some (.int .u64 (aa : Int)) ∧ (w7.alloc (.cells (vtA (who : Int) pN aa sa) 44)).cell? ⟨b16, 2, none⟩ = some (.string sa)) := Lib.hid ⟨gb.cell HH7.out.1, gb.cell HH7.out.2.1, gb.cell HH7.out.2.2⟩
                have HQB := Lib.hid (gb.cell HQ2.out)
                have HBX : Hid ((w7.alloc (.cells (vtA (who : Int) pN aa sa) 44)).heap[w7.heap.size]? = some (.cells (vtA (who : Int) pN aa sa) 44 (0, 0))) := Lib.hid (MapKept.heap_alloc w7 _).1
                have HXB := Lib.hid (gr_obj' (HG7.out.trans gb) HX66.out)
                have HVB : Hid (VO (w7.alloc (.cells (vtA (who : Int) pN aa sa) 44)) B (.slice Ak nv ck) vts) := Lib.hid (by
                  have h := HPB.out.votes _ (List.getElem_mem HKR.out)
                  rw [HXK.out] at h
                  rw [HNV.out]
                  exact h)
                have HBS : Hid (B ≤ (w7.alloc (.cells (vtA (who : Int) pN aa sa) 44)).heap.size) := Lib.hid (Nat.le_trans HB5.out (Nat.le_of_lt (Array.getElem?_eq_some_iff.1 HPB.out.acc).1))
                have HLE : Hid ((vts.length + 1) * 40 ≤ 140737488355328) := Lib.hid (by rw [← HNV.out]; omega)
                clear gb
                refine wpAnyH_ready (rs := [4, 15]) (by kernel_rfl) (by simp) ?_
                refine AllReadyH.cons rfl (fun K hK => ?_) (AllReadyH.cons rfl (fun K hK => ?_) AllReadyH.nil)
                case' refine_1 =>
                  have x9 := HQ2.out
                  go_simp
                  refine hK.out _ _ HH7.out (fun _ => ?_)
                  clear hK K x9
                  try simp only [Act.put, List.setIfInBounds_toArray, List.set_cons_zero, List.set_cons_succ]
                  refine wpAnyH_ready (rs := [15]) (by kernel_rfl) (by simp) ?_
                  refine AllReadyH.cons rfl (fun K hK => ?_) AllReadyH.nil
                  go_simp
                  refine hK.out _ _ HHB.out (fun _ => ?_)
                  clear hK K
                  try simp only [Act.put, List.setIfInBounds_toArray, List.set_cons_zero, List.set_cons_succ]
                case' refine_2 =>
                  go_simp
                  refine hK.out _ _ HHB.out (fun _ => ?_)
                  clear hK K
                  try simp only [Act.put, List.setIfInBounds_toArray, List.set_cons_zero, List.set_cons_succ]
                  refine wpAnyH_ready (rs := [4]) (by kernel_rfl) (by simp) ?_
                  refine AllReadyH.cons rfl (fun K hK => ?_) AllReadyH.nil
                  have x9 := HQB.out
                  go_simp
                  refine hK.out _ _ HHB.out (fun _ => ?_)
                  clear hK K x9
                  try simp only [Act.put, List.setIfInBounds_toArray, List.set_cons_zero, List.set_cons_succ]
                all_goals
                  refine wpAnyH_ready (rs := [16]) (by kernel_rfl) (by simp) ?_
                  refine AllReadyH.cons rfl (fun K hK => ?_) AllReadyH.nil
                  refine step_push_vt rfl (.tmp 113) (.tmp 124) rfl B (.slice Ak nv ck) vts rfl HVB.out ⟨(who : Int), pN, aa, sa⟩ w7.heap.size rfl HBX.out HLE.out HBS.out (nv + 1) (by rw [HNV.out]) ?_
                  intro A8 c8 w8 hvo8 hgk8 hf8
                  have hrow8 : w8.ownsRow B 41 5 (.slice (some ⟨g, 0, none⟩) na c6) R.length (askcs R) := own_past HPB.out.row HVB.out (by decide) hgk8
                  have y2 : w8.cell? ⟨g, k * 5 + 2, none⟩ = some (.slice Ak nv ck) := vote_cell hrow8 HNA.out HKR.out HXK.out HNV.out
                  have z2 : w8.frozen? ⟨g, k * 5 + 2, none⟩ = false := vote_free hrow8 HNA.out _
                  have HH8 : Hid (w8.cell? ⟨g, k * 5, none⟩ = some (.int .u64 (pN : Int)) ∧ w8.cell? ⟨b16, 1, none⟩ = some (.int .u64 (aa : Int)) ∧ w8.cell? ⟨b16, 2, none⟩ = some (.string sa)) := Lib.hid (held8 hrow8 HNA.out HKR.out HXK.out HXB.out HVB.out hgk8)
                  have HVO8 := Lib.hid hvo8
                  have HGK8 := Lib.hid hgk8
                  have HF8 := Lib.hid hf8
                  clear hvo8 hgk8 hf8 hrow8
                  refine hK.out _ _ HH8.out (fun _ => ?_)
                  clear hK K
                  try simp only [Act.put, List.setIfInBounds_toArray, List.set_cons_zero, List.set_cons_succ]
                  refine wpAnyH_ready (rs := [17]) (by kernel_rfl) (by simp) ?_
                  refine AllReadyH.cons rfl (fun K hK => ?_) AllReadyH.nil
                  go_simp
                  refine hK.out _ _ HH8.out (fun _ => ?_)
                  clear hK K
                  try simp only [Act.put, List.setIfInBounds_toArray, List.set_cons_zero, List.set_cons_succ]
                  refine wpAnyH_ready (rs := [18]) (by kernel_rfl) (by simp) ?_
                  refine AllReadyH.cons rfl (fun K hK => ?_) AllReadyH.nil
                  go_simp
                  refine hK.out _ _ HH8.out (fun _ => ?_)
                  clear hK K
                  try simp only [Act.put, List.setIfInBounds_toArray, List.set_cons_zero, List.set_cons_succ]
                  refine wpAnyH_ready (rs := [19]) (by kernel_rfl) (by simp) ?_
                  refine AllReadyH.cons rfl (fun K hK => ?_) AllReadyH.nil
                  go_simp
                  obtain ⟨W9, hW9⟩ : ∃ W, W = w8.setCell ⟨g, k * 5 + 2, none⟩ (.slice A8 (nv + 1) c8) := ⟨_, rfl⟩
                  have HH9 : Hid (W9.cell? ⟨g, k * 5, none⟩ = some (.int .u64 (pN : Int)) ∧ W9.cell? ⟨b16, 1, none⟩ = some (.int .u64 (aa : Int)) ∧ W9.cell? ⟨b16, 2, none⟩ = some (.string sa)) := Lib.hid (by rw [hW9]; exact held9 HH8.out (by omega) (own_ne_b16 HPB.out.row HXB.out))
                  rw [← hW9]
                  have HV9 := prep_vote HPB.out HNA.out HKR.out HXK.out HNV.out (who : Int) aa sa HVO8.out HGK8.out (by
                    have h := HF8.out
                    first
                      | exact h
                      | (rw [show (w7.alloc (.cells (vtA (who : Int) pN aa sa) 44)).heap.size = w7.heap.size + 1 by simp]; exact h)) hW9
                  refine hK.out _ _ HH9.out (fun _ => ?_)
                  clear hK K
                  refine wpAnyH_done (by kernel_rfl) ?_ _
                  have HVR := Lib.hid HV9.1
                  have HVS : Hid (SetAt S w b2 W9) := Lib.hid (setAt_far HSB.out HB2.out HV9.2.2 (HV9.2.1 _ HSB.out.2 HB0.out))
                  clear HV9 hW9 y2 z2
                  go_wp2_with fail
                  go_roundw
                  case measure => simp [intOf]; omega
                  case rel => exact ⟨t + 1, _, _, congrArg (Value.int .i64) (by have := HIT.out; omega), by have := HT2.out; omega, HIN.out, HFN.out, HVR.out, HVS.out⟩
        · as_aux_lemma =>
            obtain ⟨pv, hpv⟩ : ∃ z, z = pickO S bal vts own := ⟨_, rfl⟩
            have HPV := Lib.hid hpv
            clear hpv
            go_upto_region 25 with (fail)
            rcases pv with _ | xv
            · have HPK : Hid (∀ W : World, VV W (.slice Ak nv ck) vts → Calls Try.prog 15 #[.agg (setc S), .int .u64 (bal : Int), .slice Ak nv ck, .string own] W fun e w' => e = .returned (.tuple #[.string ⟨#[]⟩, .bool false]) ∧ Gr W w') := Lib.hid (fun W hv => by
                have h := pick_any S bal _ vts own W hv HFQ.out.2.2.2.2.2 HFQ.out.2.2.1
                rw [← HPV.out] at h
                exact h)
              have HSP : Hid (stStep S p 2 who x2 = p) := Lib.hid (by
                rw [HSO2.out (by first | rfl | trivial)]
                exact pick_none HPV.out.symm)
              have HIN : Hid (Inv S p) := Lib.hid (by have h := HI2.out; rw [HSP.out] at h; exact h)
              have HFN : Hid (FitP p (t + 1)) := Lib.hid (by have h := HF2.out; rw [HSP.out] at h; exact h)
              refine qRegion (fun w' => ((w'.cell? ⟨g, k * 5, none⟩ = some (.int .u64 (bal : Int)) ∧ w'.cell? ⟨g, k * 5 + 1, none⟩ = some (.string own) ∧ w'.cell? ⟨g, k * 5 + 2, none⟩ = some (.slice Ak nv ck)) ∧ SetAt S w b2 w' ∧ VV w' (.slice Ak nv ck) vts ∧ Gr w2 w')) (by kernel_rfl) (by kernel_rfl) ⟨⟨(Gr.refl _).drew.cell q0, (Gr.refl _).drew.cell q1, (Gr.refl _).drew.cell q2'⟩, keepS HS2.out (Gr.refl _).drew, HVO2.out.vv.gr (Gr.refl _).drew, (Gr.refl _).drew⟩ ?_
              iterate 13
                refine qTake (by kernel_rfl) ?_
                apply Exists.intro
                refine ⟨fun wq hq => ?_, ?_⟩
                · go_light
                  obtain ⟨⟨d0, d1, d2⟩, ⟨⟨e0, e1, e2, e3, e4, e5, e6, e7⟩, _⟩, _, _⟩ := hq
                  go_simp
                  try with_reducible rfl
                  done
                try simp only [Act.put, List.setIfInBounds_toArray, List.set_cons_zero, List.set_cons_succ]
              refine qCall (by kernel_rfl) ?_
              apply Exists.intro
              refine ⟨?_, ?_⟩
              · apply Exists.intro
                apply Exists.intro
                refine ⟨fun wq => ?_, fun wq hq => ?_⟩
                · go_light
                  go_simp
                  exact ⟨rfl, rfl⟩
                · exact (HPK.out _ hq.2.2.1).mono fun e w'' h => ⟨h.1, ⟨h.2.cell hq.1.1, h.2.cell hq.1.2.1, h.2.cell hq.1.2.2⟩, keepS hq.2.1 h.2, hq.2.2.1.gr h.2, hq.2.2.2.trans h.2⟩
              try simp only [Act.put, List.setIfInBounds_toArray, List.set_cons_zero, List.set_cons_succ]
              iterate 5
                refine qTake (by kernel_rfl) ?_
                apply Exists.intro
                refine ⟨fun wq hq => ?_, ?_⟩
                · go_light
                  obtain ⟨⟨d0, d1, d2⟩, ⟨⟨e0, e1, e2, e3, e4, e5, e6, e7⟩, _⟩, _, _⟩ := hq
                  go_simp
                  try with_reducible rfl
                  done
                try simp only [Act.put, List.setIfInBounds_toArray, List.set_cons_zero, List.set_cons_succ]
              refine qNil ?_
              intro w3 hC
              have HP3 := Lib.hid (HP2.out.gr hC.2.2.2)
              have HS3 := Lib.hid hC.2.1
              clear hC q0 q1 q2' q3 q4 q5 a0 a1 a2 HPK
              go_wp2_with fail
              go_roundw
              case measure => simp [intOf]; omega
              case rel => exact ⟨t + 1, p, R, congrArg (Value.int .i64) (by have := HIT.out; omega), by have := HT2.out; omega, HIN.out, HFN.out, HP3.out, HS3.out⟩
            · have HPK : Hid (∀ W : World, VV W (.slice Ak nv ck) vts → Calls Try.prog 15 #[.agg (setc S), .int .u64 (bal : Int), .slice Ak nv ck, .string own] W fun e w' => e = .returned (.tuple #[.string xv, .bool true]) ∧ Gr W w') := Lib.hid (fun W hv => by
                have h := pick_any S bal _ vts own W hv HFQ.out.2.2.2.2.2 HFQ.out.2.2.1
                rw [← HPV.out] at h
                exact h)
              refine qRegion (fun w' => ((w'.cell? ⟨g, k * 5, none⟩ = some (.int .u64 (bal : Int)) ∧ w'.cell? ⟨g, k * 5 + 1, none⟩ = some (.string own) ∧ w'.cell? ⟨g, k * 5 + 2, none⟩ = some (.slice Ak nv ck)) ∧ SetAt S w b2 w' ∧ VV w' (.slice Ak nv ck) vts ∧ Gr w2 w')) (by kernel_rfl) (by kernel_rfl) ⟨⟨(Gr.refl _).drew.cell q0, (Gr.refl _).drew.cell q1, (Gr.refl _).drew.cell q2'⟩, keepS HS2.out (Gr.refl _).drew, HVO2.out.vv.gr (Gr.refl _).drew, (Gr.refl _).drew⟩ ?_
              iterate 13
                refine qTake (by kernel_rfl) ?_
                apply Exists.intro
                refine ⟨fun wq hq => ?_, ?_⟩
                · go_light
                  obtain ⟨⟨d0, d1, d2⟩, ⟨⟨e0, e1, e2, e3, e4, e5, e6, e7⟩, _⟩, _, _⟩ := hq
                  go_simp
                  try with_reducible rfl
                  done
                try simp only [Act.put, List.setIfInBounds_toArray, List.set_cons_zero, List.set_cons_succ]
              refine qCall (by kernel_rfl) ?_
              apply Exists.intro
              refine ⟨?_, ?_⟩
              · apply Exists.intro
                apply Exists.intro
                refine ⟨fun wq => ?_, fun wq hq => ?_⟩
                · go_light
                  go_simp
                  exact ⟨rfl, rfl⟩
                · exact (HPK.out _ hq.2.2.1).mono fun e w'' h => ⟨h.1, ⟨h.2.cell hq.1.1, h.2.cell hq.1.2.1, h.2.cell hq.1.2.2⟩, keepS hq.2.1 h.2, hq.2.2.1.gr h.2, hq.2.2.2.trans h.2⟩
              try simp only [Act.put, List.setIfInBounds_toArray, List.set_cons_zero, List.set_cons_succ]
              iterate 5
                refine qTake (by kernel_rfl) ?_
                apply Exists.intro
                refine ⟨fun wq hq => ?_, ?_⟩
                · go_light
                  obtain ⟨⟨d0, d1, d2⟩, ⟨⟨e0, e1, e2, e3, e4, e5, e6, e7⟩, _⟩, _, _⟩ := hq
                  go_simp
                  try with_reducible rfl
                  done
                try simp only [Act.put, List.setIfInBounds_toArray, List.set_cons_zero, List.set_cons_succ]
              refine qNil ?_
              intro w3 hC
              have HP3 := Lib.hid (HP2.out.gr hC.2.2.2)
              have HS3 := Lib.hid hC.2.1
              clear hC q0 q1 q2' q3 q4 q5 a0 a1 a2 HPK
              obtain ⟨q0, q1, q2, q3, q4, q5⟩ := HP3.out.cells HNA.out HKR.out
              simp only [HXK.out] at q3 q4
              clear q0 q1 q2
              rcases (by cases pk <;> simp : pk = false ∨ pk = true) with rfl | rfl
              · have HSP : Hid (stStep S p 2 who x2 = { p with asked := p.asked.set k ⟨bal, own, vts, true, xv⟩ }) := Lib.hid (by
                  rw [HSO2.out (by first | rfl | trivial)]
                  exact pick_new HPV.out.symm rfl)
                have HIN : Hid (Inv S { p with asked := p.asked.set k ⟨bal, own, vts, true, xv⟩ }) := Lib.hid (by have h := HI2.out; rw [HSP.out] at h; exact h)
                have HFN : Hid (FitP { p with asked := p.asked.set k ⟨bal, own, vts, true, xv⟩ } (t + 1)) := Lib.hid (by have h := HF2.out; rw [HSP.out] at h; exact h)
                have z3 := q5 (k * 5 + 3)
                have z4 := q5 (k * 5 + 4)
                clear q5
                have HW := Lib.hid (pick_step HP3.out HNA.out HKR.out HXK.out xv rfl)
                have HS4 := Lib.hid (setAt_far HS3.out HB2.out HW.out.2.2 (HW.out.2.1 _ HS3.out.2 HB0.out))
                go_wp2_with fail
                go_roundw
                case measure => simp [intOf]; omega
                case rel => exact ⟨t + 1, _, _, congrArg (Value.int .i64) (by have := HIT.out; omega), by have := HT2.out; omega, HIN.out, HFN.out, HW.out.1, HS4.out⟩
              · have HSP : Hid (stStep S p 2 who x2 = p) := Lib.hid (by
                  rw [HSO2.out (by first | rfl | trivial)]
                  exact pick_old HPV.out.symm rfl)
                have HIN : Hid (Inv S p) := Lib.hid (by have h := HI2.out; rw [HSP.out] at h; exact h)
                have HFN : Hid (FitP p (t + 1)) := Lib.hid (by have h := HF2.out; rw [HSP.out] at h; exact h)
                go_wp2_with fail
                go_roundw
                case measure => simp [intOf]; omega
                case rel => exact ⟨t + 1, p, R, congrArg (Value.int .i64) (by have := HIT.out; omega), by have := HT2.out; omega, HIN.out, HFN.out, HP3.out, HS3.out⟩
        · as_aux_lemma =>
            go_upto_region 29 with (fail)
            rcases (by cases pk <;> simp : pk = false ∨ pk = true) with rfl | rfl
            · have HSP : Hid (stStep S p 3 who x2 = p) := Lib.hid (by
                rw [HSO3.out (by first | rfl | trivial)]
                exact acc_unpicked rfl)
              have HIN : Hid (Inv S p) := Lib.hid (by have h := HI2.out; rw [HSP.out] at h; exact h)
              have HFN : Hid (FitP p (t + 1)) := Lib.hid (by have h := HF2.out; rw [HSP.out] at h; exact h)
              go_wp2_with fail
              go_roundw
              case measure => simp [intOf]; omega
              case rel => exact ⟨t + 1, p, R, congrArg (Value.int .i64) (by have := HIT.out; omega), by have := HT2.out; omega, HIN.out, HFN.out, HP2.out, HS2.out⟩
            obtain ⟨pN, hpN⟩ : ∃ z, z = acN ap bal ap := ⟨_, rfl⟩
            obtain ⟨aN, haN⟩ : ∃ z, z = acN ap bal aa := ⟨_, rfl⟩
            obtain ⟨sN, hsN⟩ : ∃ z, z = acS ap bal sa vl := ⟨_, rfl⟩
            obtain ⟨ok, hok⟩ : ∃ z, z = acB ap bal := ⟨_, rfl⟩
            have HAP : Hid (∀ W : World, Calls Try.prog 13 #[acv ap aa sa, .int .u64 (bal : Int), .string vl] W fun e w' => ∃ v, e = .returned v ∧ v = .tuple #[acv pN aN sN, .bool ok] ∧ Gr W w') := Lib.hid (fun W => (accept_any ap aa bal sa vl HFA.out.2.2 HFQ.out.2.2.2.1 W).mono fun e w' h => ⟨_, h.1, by rw [hpN, haN, hsN, hok], h.2⟩)
            have HPN := Lib.hid hpN
            have HAN := Lib.hid haN
            have HSN := Lib.hid hsN
            have HOK := Lib.hid hok
            clear hpN haN hsN hok
            go_upto_region 30 with (fail)
            have HSS : Hid (∀ w' : World, Gr w2 w' → (w'.cell? ⟨g, k * 5, none⟩ = some (.int .u64 (bal : Int)) ∧ w'.cell? ⟨g, k * 5 + 4, none⟩ = some (.string vl) ∧ w'.cell? ⟨b5, who * 3, none⟩ = some (.int .u64 (ap : Int)) ∧ w'.cell? ⟨b5, who * 3 + 1, none⟩ = some (.int .u64 (aa : Int)) ∧ w'.cell? ⟨b5, who * 3 + 2, none⟩ = some (.string sa))) := Lib.hid (fun w' h => ⟨h.cell q0, h.cell q4, h.cell a0, h.cell a1, h.cell a2⟩)
            clear q0 q1 q2' q3 q4 q5 a0 a1 a2
            go_cut [21, 22] (fun s21 s22 wx => ∃ b21, s21 = .pointer (some ⟨b21, 0, none⟩) ∧ s22 = .bool ok ∧ Hid (wx.heap[b21]? = some (.cells (accs pN aN sN) 24 (0, 0)) ∧ Gr w2 wx))
            case first =>
              refine wp_region_held_drew (S := fun w' => (w'.cell? ⟨g, k * 5, none⟩ = some (.int .u64 (bal : Int)) ∧ w'.cell? ⟨g, k * 5 + 4, none⟩ = some (.string vl) ∧ w'.cell? ⟨b5, who * 3, none⟩ = some (.int .u64 (ap : Int)) ∧ w'.cell? ⟨b5, who * 3 + 1, none⟩ = some (.int .u64 (aa : Int)) ∧ w'.cell? ⟨b5, who * 3 + 2, none⟩ = some (.string sa))) (by kernel_rfl) (HSS.out _ (Gr.refl _).drew) (fun hHeld => ?_)
              refine hTake (i := 0) rfl (by kernel_rfl) (by kernel_rfl) (by kernel_rfl) (by kernel_rfl) (by assumption) ?_
              apply Exists.intro
              refine ⟨fun _ _ _ h => h, fun wq hq => ?_, ?_⟩
              · go_light
                obtain ⟨d0, d1, d2, d3, d4⟩ := hq
                go_simp
                try with_reducible rfl
                done
              try simp only [Act.put, List.setIfInBounds_toArray, List.set_cons_zero, List.set_cons_succ, List.getElem_toArray, List.getElem_cons_succ, List.getElem_cons_zero]
              refine hTake (i := 1) rfl (by kernel_rfl) (by kernel_rfl) (by kernel_rfl) (by kernel_rfl) (by assumption) ?_
              apply Exists.intro
              refine ⟨fun _ _ _ h => h, fun wq hq => ?_, ?_⟩
              · go_light
                obtain ⟨d0, d1, d2, d3, d4⟩ := hq
                go_simp
                try with_reducible rfl
                done
              try simp only [Act.put, List.setIfInBounds_toArray, List.set_cons_zero, List.set_cons_succ, List.getElem_toArray, List.getElem_cons_succ, List.getElem_cons_zero]
              refine hTake (i := 2) rfl (by kernel_rfl) (by kernel_rfl) (by kernel_rfl) (by kernel_rfl) (by assumption) ?_
              apply Exists.intro
              refine ⟨fun _ _ _ h => h, fun wq hq => ?_, ?_⟩
              · go_light
                obtain ⟨d0, d1, d2, d3, d4⟩ := hq
                go_simp
                try with_reducible rfl
                done
              try simp only [Act.put, List.setIfInBounds_toArray, List.set_cons_zero, List.set_cons_succ, List.getElem_toArray, List.getElem_cons_succ, List.getElem_cons_zero]
              refine hTake (i := 3) rfl (by kernel_rfl) (by kernel_rfl) (by kernel_rfl) (by kernel_rfl) (by assumption) ?_
              apply Exists.intro
              refine ⟨fun _ _ _ h => h, fun wq hq => ?_, ?_⟩
              · go_light
                obtain ⟨d0, d1, d2, d3, d4⟩ := hq
                go_simp
                try with_reducible rfl
                done
              try simp only [Act.put, List.setIfInBounds_toArray, List.set_cons_zero, List.set_cons_succ, List.getElem_toArray, List.getElem_cons_succ, List.getElem_cons_zero]
              refine hTake (i := 4) rfl (by kernel_rfl) (by kernel_rfl) (by kernel_rfl) (by kernel_rfl) (by assumption) ?_
              apply Exists.intro
              refine ⟨fun _ _ _ h => h, fun wq hq => ?_, ?_⟩
              · go_light
                obtain ⟨d0, d1, d2, d3, d4⟩ := hq
                go_simp
                try with_reducible rfl
                done
              try simp only [Act.put, List.setIfInBounds_toArray, List.set_cons_zero, List.set_cons_succ, List.getElem_toArray, List.getElem_cons_succ, List.getElem_cons_zero]
              refine hTake (i := 5) rfl (by kernel_rfl) (by kernel_rfl) (by kernel_rfl) (by kernel_rfl) (by assumption) ?_
              apply Exists.intro
              refine ⟨fun _ _ _ h => h, fun wq hq => ?_, ?_⟩
              · go_light
                obtain ⟨d0, d1, d2, d3, d4⟩ := hq
                go_simp
                try with_reducible rfl
                done
              try simp only [Act.put, List.setIfInBounds_toArray, List.set_cons_zero, List.set_cons_succ, List.getElem_toArray, List.getElem_cons_succ, List.getElem_cons_zero]
              refine hTake (i := 6) rfl (by kernel_rfl) (by kernel_rfl) (by kernel_rfl) (by kernel_rfl) (by assumption) ?_
              apply Exists.intro
              refine ⟨fun _ _ _ h => h, fun wq hq => ?_, ?_⟩
              · go_light
                obtain ⟨d0, d1, d2, d3, d4⟩ := hq
                go_simp
                try with_reducible rfl
                done
              try simp only [Act.put, List.setIfInBounds_toArray, List.set_cons_zero, List.set_cons_succ, List.getElem_toArray, List.getElem_cons_succ, List.getElem_cons_zero]
              refine hTake (i := 7) rfl (by kernel_rfl) (by kernel_rfl) (by kernel_rfl) (by kernel_rfl) (by assumption) ?_
              apply Exists.intro
              refine ⟨fun _ _ _ h => h, fun wq hq => ?_, ?_⟩
              · go_light
                obtain ⟨d0, d1, d2, d3, d4⟩ := hq
                go_simp
                try with_reducible rfl
                done
              try simp only [Act.put, List.setIfInBounds_toArray, List.set_cons_zero, List.set_cons_succ, List.getElem_toArray, List.getElem_cons_succ, List.getElem_cons_zero]
              refine hTake (i := 8) rfl (by kernel_rfl) (by kernel_rfl) (by kernel_rfl) (by kernel_rfl) (by assumption) ?_
              apply Exists.intro
              refine ⟨fun _ _ _ h => h, fun wq hq => ?_, ?_⟩
              · go_light
                obtain ⟨d0, d1, d2, d3, d4⟩ := hq
                go_simp
                try with_reducible rfl
                done
              try simp only [Act.put, List.setIfInBounds_toArray, List.set_cons_zero, List.set_cons_succ, List.getElem_toArray, List.getElem_cons_succ, List.getElem_cons_zero]
              refine hTake (i := 9) rfl (by kernel_rfl) (by kernel_rfl) (by kernel_rfl) (by kernel_rfl) (by assumption) ?_
              apply Exists.intro
              refine ⟨fun _ _ _ h => h, fun wq hq => ?_, ?_⟩
              · go_light
                obtain ⟨d0, d1, d2, d3, d4⟩ := hq
                go_simp
                try with_reducible rfl
                done
              try simp only [Act.put, List.setIfInBounds_toArray, List.set_cons_zero, List.set_cons_succ, List.getElem_toArray, List.getElem_cons_succ, List.getElem_cons_zero]
              refine hTake (i := 10) rfl (by kernel_rfl) (by kernel_rfl) (by kernel_rfl) (by kernel_rfl) (by assumption) ?_
              apply Exists.intro
              refine ⟨fun _ _ _ h => h, fun wq hq => ?_, ?_⟩
              · go_light
                obtain ⟨d0, d1, d2, d3, d4⟩ := hq
                go_simp
                try with_reducible rfl
                done
              try simp only [Act.put, List.setIfInBounds_toArray, List.set_cons_zero, List.set_cons_succ, List.getElem_toArray, List.getElem_cons_succ, List.getElem_cons_zero]
              have hg7 : Gr w2 w2.drew := (Gr.refl _).drew
              generalize w2.drew = w7 at *
              have HG7 := Lib.hid hg7
              clear hg7 hHeld
              have HCA := Lib.hid (HAP.out w7)
              have HCB := Lib.hid (HAP.out (w7.alloc (.cells #[.int .u64 0, .int .u64 0, .string ⟨#[]⟩] 24)))
              refine wpAnyH_ready (rs := [11, 15]) (by kernel_rfl) (by simp) ?_
              refine AllReadyH.cons rfl (fun K hK => ?_) (AllReadyH.cons rfl (fun K hK => ?_) AllReadyH.nil)
              · refine vstep_call rfl 13 [.tmp 172, .tmp 176, .tmp 180] _ rfl [acv ap aa sa, .int .u64 (bal : Int), .string vl] rfl (cf_accept _) HCA.out ?_
                intro v5 w5 h5
                obtain ⟨rfl, g2⟩ := h5
                have hg5 : Gr w2 w5 := HG7.out.trans g2
                have hle : w2.heap.size ≤ w5.heap.size := hg5.size
                have HH5 := HSS.out _ hg5
                refine hK.out _ _ HH5 (fun _ => ?_)
                clear hK K
                try simp only [Act.put, List.setIfInBounds_toArray, List.set_cons_zero, List.set_cons_succ]
                refine hTake (i := 12) rfl (by kernel_rfl) (by kernel_rfl) (by kernel_rfl) (by kernel_rfl) (by assumption) ?_
                apply Exists.intro
                refine ⟨fun _ _ _ h => h, fun wq hq => ?_, ?_⟩
                · go_light
                  go_simp
                  try with_reducible rfl
                  done
                try simp only [Act.put, List.setIfInBounds_toArray, List.set_cons_zero, List.set_cons_succ, List.getElem_toArray, List.getElem_cons_succ, List.getElem_cons_zero]
                refine hTake (i := 13) rfl (by kernel_rfl) (by kernel_rfl) (by kernel_rfl) (by kernel_rfl) (by assumption) ?_
                apply Exists.intro
                refine ⟨fun _ _ _ h => h, fun wq hq => ?_, ?_⟩
                · go_light
                  go_simp
                  try with_reducible rfl
                  done
                try simp only [Act.put, List.setIfInBounds_toArray, List.set_cons_zero, List.set_cons_succ, List.getElem_toArray, List.getElem_cons_succ, List.getElem_cons_zero]
                refine hTake (i := 14) rfl (by kernel_rfl) (by kernel_rfl) (by kernel_rfl) (by kernel_rfl) (by assumption) ?_
                apply Exists.intro
                refine ⟨fun _ _ _ h => h, fun wq hq => ?_, ?_⟩
                · go_light
                  go_simp
                  try with_reducible rfl
                  done
                try simp only [Act.put, List.setIfInBounds_toArray, List.set_cons_zero, List.set_cons_succ, List.getElem_toArray, List.getElem_cons_succ, List.getElem_cons_zero]
                refine wpAnyH_ready (rs := [15]) (by kernel_rfl) (by simp) ?_
                refine AllReadyH.cons rfl (fun K hK => ?_) AllReadyH.nil
                go_simp
                refine hK.out _ _ (HSS.out _ (hg5.alloc _)) (fun _ => ?_)
                clear hK K
                try simp only [Act.put, List.setIfInBounds_toArray, List.set_cons_zero, List.set_cons_succ]
                refine wpAnyH_ready (rs := [16]) (by kernel_rfl) (by simp) ?_
                refine AllReadyH.cons rfl (fun K hK => ?_) AllReadyH.nil
                have hB8 : (w5.alloc (.cells #[.int .u64 0, .int .u64 0, .string ⟨#[]⟩] 24)).heap[w5.heap.size]? = some (.cells acc0 24 (0, 0)) := (MapKept.heap_alloc w5 _).1
                have y0 : (w5.alloc (.cells #[.int .u64 0, .int .u64 0, .string ⟨#[]⟩] 24)).cell? ⟨w5.heap.size, 0, none⟩ = some (.int .u64 0) := cell_of_obj hB8 rfl
                have y1 : (w5.alloc (.cells #[.int .u64 0, .int .u64 0, .string ⟨#[]⟩] 24)).cell? ⟨w5.heap.size, 1, none⟩ = some (.int .u64 0) := cell_of_obj hB8 rfl
                have y2 : (w5.alloc (.cells #[.int .u64 0, .int .u64 0, .string ⟨#[]⟩] 24)).cell? ⟨w5.heap.size, 2, none⟩ = some (.string ⟨#[]⟩) := cell_of_obj hB8 rfl
                have f0 := free_of_obj 0 hB8
                have f1 := free_of_obj 1 hB8
                have f2 := free_of_obj 2 hB8
                go_simp
                first
                | (obtain ⟨W3, h3, hx3, ho3, hg3⟩ := store_acc hB8 pN aN sN
                   have hG3 := hg3 _ (hg5.alloc _) hle
                   rw [← h3]
                   refine hK.out _ _ (HSS.out _ hG3) (fun _ => ?_)
                   clear hK K
                   have HH6 := HSS.out _ hG3
                   refine hTake (i := 17) rfl (by kernel_rfl) (by kernel_rfl) (by kernel_rfl) (by kernel_rfl) (by assumption) ?_
                   apply Exists.intro
                   refine ⟨fun _ _ _ h => h, fun wq hq => ?_, ?_⟩
                   · go_light
                     go_simp
                     try with_reducible rfl
                     done
                   try simp only [Act.put, List.setIfInBounds_toArray, List.set_cons_zero, List.set_cons_succ, List.getElem_toArray, List.getElem_cons_succ, List.getElem_cons_zero]
                   refine wpAnyH_done (by kernel_rfl) ?_ _
                   go_wp2
                   go_meet
                   exact ⟨w5.heap.size, rfl, rfl, Lib.hid (by first | exact ⟨hx3, hG3⟩ | (rw [← h3]; exact ⟨hx3, hG3⟩))⟩)
                | (have hx3 := (MapKept.heap_alloc w5 (.cells (accs pN aN sN) 24)).1
                   have hG3 := hg5.alloc (.cells (accs pN aN sN) 24)
                   refine hK.out _ _ (HSS.out _ hG3) (fun _ => ?_)
                   clear hK K
                   have HH6 := HSS.out _ hG3
                   refine hTake (i := 17) rfl (by kernel_rfl) (by kernel_rfl) (by kernel_rfl) (by kernel_rfl) (by assumption) ?_
                   apply Exists.intro
                   refine ⟨fun _ _ _ h => h, fun wq hq => ?_, ?_⟩
                   · go_light
                     go_simp
                     try with_reducible rfl
                     done
                   try simp only [Act.put, List.setIfInBounds_toArray, List.set_cons_zero, List.set_cons_succ, List.getElem_toArray, List.getElem_cons_succ, List.getElem_cons_zero]
                   refine wpAnyH_done (by kernel_rfl) ?_ _
                   go_wp2
                   go_meet
                   exact ⟨w5.heap.size, rfl, rfl, Lib.hid (by first | exact ⟨hx3, hG3⟩ | (rw [← h3]; exact ⟨hx3, hG3⟩))⟩)
              · go_simp
                have hg8 : Gr w2 (w7.alloc (.cells #[.int .u64 0, .int .u64 0, .string ⟨#[]⟩] 24)) := HG7.out.alloc _
                refine hK.out _ _ (HSS.out _ hg8) (fun _ => ?_)
                clear hK K
                try simp only [Act.put, List.setIfInBounds_toArray, List.set_cons_zero, List.set_cons_succ]
                refine wpAnyH_ready (rs := [11]) (by kernel_rfl) (by simp) ?_
                refine AllReadyH.cons rfl (fun K hK => ?_) AllReadyH.nil
                refine vstep_call rfl 13 [.tmp 172, .tmp 176, .tmp 180] _ rfl [acv ap aa sa, .int .u64 (bal : Int), .string vl] rfl (cf_accept _) HCB.out ?_
                intro v5 w5 h5
                obtain ⟨rfl, g2⟩ := h5
                have hg5 : Gr w2 w5 := hg8.trans g2
                have hB8 : w5.heap[w7.heap.size]? = some (.cells acc0 24 (0, 0)) := gr_obj' g2 (MapKept.heap_alloc w7 _).1
                have hle : w2.heap.size ≤ w7.heap.size := HG7.out.size
                have HH5 := HSS.out _ hg5
                refine hK.out _ _ HH5 (fun _ => ?_)
                clear hK K
                try simp only [Act.put, List.setIfInBounds_toArray, List.set_cons_zero, List.set_cons_succ]
                refine hTake (i := 12) rfl (by kernel_rfl) (by kernel_rfl) (by kernel_rfl) (by kernel_rfl) (by assumption) ?_
                apply Exists.intro
                refine ⟨fun _ _ _ h => h, fun wq hq => ?_, ?_⟩
                · go_light
                  go_simp
                  try with_reducible rfl
                  done
                try simp only [Act.put, List.setIfInBounds_toArray, List.set_cons_zero, List.set_cons_succ, List.getElem_toArray, List.getElem_cons_succ, List.getElem_cons_zero]
                refine hTake (i := 13) rfl (by kernel_rfl) (by kernel_rfl) (by kernel_rfl) (by kernel_rfl) (by assumption) ?_
                apply Exists.intro
                refine ⟨fun _ _ _ h => h, fun wq hq => ?_, ?_⟩
                · go_light
                  go_simp
                  try with_reducible rfl
                  done
                try simp only [Act.put, List.setIfInBounds_toArray, List.set_cons_zero, List.set_cons_succ, List.getElem_toArray, List.getElem_cons_succ, List.getElem_cons_zero]
                refine hTake (i := 14) rfl (by kernel_rfl) (by kernel_rfl) (by kernel_rfl) (by kernel_rfl) (by assumption) ?_
                apply Exists.intro
                refine ⟨fun _ _ _ h => h, fun wq hq => ?_, ?_⟩
                · go_light
                  go_simp
                  try with_reducible rfl
                  done
                try simp only [Act.put, List.setIfInBounds_toArray, List.set_cons_zero, List.set_cons_succ, List.getElem_toArray, List.getElem_cons_succ, List.getElem_cons_zero]
                refine wpAnyH_ready (rs := [16]) (by kernel_rfl) (by simp) ?_
                refine AllReadyH.cons rfl (fun K hK => ?_) AllReadyH.nil
                have y0 : w5.cell? ⟨w7.heap.size, 0, none⟩ = some (.int .u64 0) := cell_of_obj hB8 rfl
                have y1 : w5.cell? ⟨w7.heap.size, 1, none⟩ = some (.int .u64 0) := cell_of_obj hB8 rfl
                have y2 : w5.cell? ⟨w7.heap.size, 2, none⟩ = some (.string ⟨#[]⟩) := cell_of_obj hB8 rfl
                have f0 := free_of_obj 0 hB8
                have f1 := free_of_obj 1 hB8
                have f2 := free_of_obj 2 hB8
                go_simp
                obtain ⟨W3, h3, hx3, ho3, hg3⟩ := store_acc hB8 pN aN sN
                have hG3 := hg3 _ hg5 hle
                rw [← h3]
                refine hK.out _ _ (HSS.out _ hG3) (fun _ => ?_)
                clear hK K
                have HH6 := HSS.out _ hG3
                refine hTake (i := 17) rfl (by kernel_rfl) (by kernel_rfl) (by kernel_rfl) (by kernel_rfl) (by assumption) ?_
                apply Exists.intro
                refine ⟨fun _ _ _ h => h, fun wq hq => ?_, ?_⟩
                · go_light
                  go_simp
                  try with_reducible rfl
                  done
                try simp only [Act.put, List.setIfInBounds_toArray, List.set_cons_zero, List.set_cons_succ, List.getElem_toArray, List.getElem_cons_succ, List.getElem_cons_zero]
                refine wpAnyH_done (by kernel_rfl) ?_ _
                go_wp2
                go_meet
                exact ⟨w7.heap.size, rfl, rfl, Lib.hid (by first | exact ⟨hx3, hG3⟩ | (rw [← h3]; exact ⟨hx3, hG3⟩))⟩
            case rest =>
              obtain ⟨b21, rfl, rfl, HC⟩ := hcut
              clear HSS HAP
              have HX21 := Lib.hid HC.out.1
              have HP5 := Lib.hid (HP2.out.gr HC.out.2)
              have HS5 := Lib.hid (keepS HS2.out HC.out.2)
              clear HC
              rcases (by cases ok <;> simp : ok = false ∨ ok = true) with rfl | rfl
              · have HSP : Hid (stStep S p 3 who x2 = p) := Lib.hid (by
                  rw [HSO3.out (by first | rfl | trivial)]
                  exact acc_no (by rw [← HAC.out]; exact HOK.out.symm))
                have HIN : Hid (Inv S p) := Lib.hid (by have h := HI2.out; rw [HSP.out] at h; exact h)
                have HFN : Hid (FitP p (t + 1)) := Lib.hid (by have h := HF2.out; rw [HSP.out] at h; exact h)
                go_wp2_with fail
                go_roundw
                case measure => simp [intOf]; omega
                case rel => exact ⟨t + 1, p, R, congrArg (Value.int .i64) (by have := HIT.out; omega), by have := HT2.out; omega, HIN.out, HFN.out, HP5.out, HS5.out⟩
              · obtain rfl : pN = bal := by
                  have h := HPN.out
                  unfold acN at h
                  rw [← HOK.out, if_pos rfl] at h
                  exact h
                obtain rfl : aN = pN := by
                  have h := HAN.out
                  unfold acN at h
                  rw [← HOK.out, if_pos rfl] at h
                  exact h
                obtain rfl : sN = vl := by
                  have h := HSN.out
                  unfold acS at h
                  rw [← HOK.out, if_pos rfl] at h
                  exact h
                have HSP : Hid (stStep S p 3 who x2 = { p with acc := setF p.acc who ⟨aN, aN, sN⟩, said := p.said ++ [⟨(who : Int), aN, 0, sN⟩] }) := Lib.hid (by
                  rw [HSO3.out (by first | rfl | trivial)]
                  exact acc_yes rfl (by rw [← HAC.out]; exact HOK.out.symm))
                have HIN : Hid (Inv S { p with acc := setF p.acc who ⟨aN, aN, sN⟩, said := p.said ++ [⟨(who : Int), aN, 0, sN⟩] }) := Lib.hid (by have h := HI2.out; rw [HSP.out] at h; exact h)
                have HFN : Hid (FitP { p with acc := setF p.acc who ⟨aN, aN, sN⟩, said := p.said ++ [⟨(who : Int), aN, 0, sN⟩] } (t + 1)) := Lib.hid (by have h := HF2.out; rw [HSP.out] at h; exact h)
                have n0 : wc.cell? ⟨b21, 0, none⟩ = some (.int .u64 (aN : Int)) := cell_of_obj HX21.out rfl
                have n1 : wc.cell? ⟨b21, 1, none⟩ = some (.int .u64 (aN : Int)) := cell_of_obj HX21.out rfl
                have n2 : wc.cell? ⟨b21, 2, none⟩ = some (.string sN) := cell_of_obj HX21.out rfl
                obtain ⟨a0, a1, a2⟩ := HP5.out.acc.at hw8
                have z0 := free_of_obj (who * 3) HP5.out.acc
                have z1 := free_of_obj (who * 3 + 1) HP5.out.acc
                have z2 := free_of_obj (who * 3 + 2) HP5.out.acc
                clear HSP HSO1 HSO2 HSO3 HI2 HF2 HGET HNW HKX HFQ HFA HPN HAN HSN HOK
                go_upto_region 33 with (fail)
                obtain ⟨W6, h6, ha6, hk6, hg6⟩ := HP5.out.acc.put hw8 aN aN sN
                rw [← h6]
                clear h6 n0 n1 n2 a0 a1 a2 z0 z1 z2
                have HP6 := Lib.hid (HP5.out.putAcc ha6 hk6)
                have HS6 : Hid (SetAt S w b2 W6) := Lib.hid (setAt_kp HS5.out (hg6 _ HS5.out.2 (Nat.le_trans HB0.out HB5.out)) hk6 (fun e => HNE.out (by injection e)))
                clear ha6 hk6 hg6 HP5 HX21
                obtain ⟨q0, q1, q2, q3, q4, q5⟩ := HP6.out.cells HNA.out HKR.out
                simp only [HXK.out] at q0 q4
                clear q1 q2 q3 q5
                refine qTail1 10 (fun w' => (w'.cell? ⟨g, k * 5, none⟩ = some (.int .u64 (aN : Int)) ∧ w'.cell? ⟨g, k * 5 + 4, none⟩ = some (.string sN)) ∧ Gr W6 w') (.slice A7 ns c7) (by kernel_rfl) (by kernel_rfl) (fun _ _ _ h => h) (.inl ⟨by kernel_rfl, fun wq => by (go_light; go_simp)⟩) ⟨⟨(Gr.refl _).drew.cell q0, (Gr.refl _).drew.cell q4⟩, (Gr.refl _).drew⟩ ?_
                simp only [List.take_succ_cons, List.take_zero, List.drop_succ_cons, List.drop_zero]
                try simp only [Act.put, List.setIfInBounds_toArray, List.set_cons_zero, List.set_cons_succ]
                iterate 10
                  refine qTake (by kernel_rfl) ?_
                  apply Exists.intro
                  refine ⟨fun wq hq => ?_, ?_⟩
                  · go_light
                    obtain ⟨⟨d0, d1⟩, _⟩ := hq
                    go_simp
                    try with_reducible rfl
                    done
                  try simp only [Act.put, List.setIfInBounds_toArray, List.set_cons_zero, List.set_cons_succ]
                refine qNil ?_
                intro w7 hC
                have HP7 := Lib.hid (HP6.out.gr hC.2)
                have HS7 := Lib.hid (keepS HS6.out hC.2)
                clear hC q0 q4 HP6 HS6
                have gb : Gr w7 (w7.alloc (.cells (vtA (who : Int) aN 0 sN) 44)) := gr_box _ _
                have HPB := Lib.hid (HP7.out.gr gb)
                have HSB := Lib.hid (keepS HS7.out gb)
                have HSD := Lib.hid HPB.out.said
                have HBX : Hid ((w7.alloc (.cells (vtA (who : Int) aN 0 sN) 44)).heap[w7.heap.size]? = some (.cells (vtA (who : Int) aN 0 sN) 44 (0, 0))) := Lib.hid (MapKept.heap_alloc w7 _).1
                have HBS : Hid (B ≤ (w7.alloc (.cells (vtA (who : Int) aN 0 sN) 44)).heap.size) := Lib.hid (Nat.le_trans HB5.out (Nat.le_of_lt (Array.getElem?_eq_some_iff.1 HPB.out.acc).1))
                have HLE : Hid ((p.said.length + 1) * 40 ≤ 140737488355328) := Lib.hid (by rw [← HNS.out]; omega)
                clear gb
                go_wp2_with (at_builtin; refine wpList_push_vt rfl (.tmp 188) (.tmp 199) rfl B (.slice A7 ns c7) p.said rfl HSD.out ⟨(who : Int), aN, 0, sN⟩ w7.heap.size rfl HBX.out HLE.out HBS.out (ns + 1) (by rw [HNS.out]) ?_)
                intro A8 c8 w8 hvo8 hgk8 hf8
                have HP8 := Lib.hid (HPB.out.tell ⟨(who : Int), aN, 0, sN⟩ hvo8 hgk8 (by
                  first
                    | exact hf8
                    | (rw [show (w7.alloc (.cells (vtA (who : Int) aN 0 sN) 44)).heap.size = w7.heap.size + 1 by simp]; exact hf8)))
                have HS8 : Hid (SetAt S w b2 w8) := Lib.hid (setAt_kp HSB.out (gr_grown HSB.out.2 HSD.out HB0.out hgk8) hgk8 (fun e => by have := (HSD.out.lt b2 e.symm).1; have := HB2.out; omega))
                clear hvo8 hgk8 hf8
                go_wp2_with fail
                go_roundw
                case measure => simp [intOf]; omega
                case rel => exact ⟨t + 1, _, _, congrArg (Value.int .i64) (by have := HIT.out; omega), by have := HT2.out; omega, HIN.out, HFN.out, HP8.out, HS8.out⟩
end Go.Proofs.Ytboonfbbnidmbaa
