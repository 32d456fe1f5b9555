/- Walks: copies of stands; the program's Order. -/
import Derived.Test.YtlgljanofppleaaSdD
import Derived.Test.YtlgljanofppleaaCutF
import Derived.Test.YtlgljanofppleaaCutU
import Derived.Test.YtlgljanofppleaaCutK
namespace Go.Proofs.Ytlgljanofppleaa
open Go.RowKit Go.Joins
set_option linter.unusedSimpArgs false
set_option linter.unusedVariables false

/-- append of one transaction to a row of the call's own, in a region's forced order. -/
theorem wpList_push_tx2 {W : World} {ops : Array Oper} {rest : List Oper} {o : Oper} {a : Act} {Q : Exit → Act → World → Prop} (hw : Region.wanted o (yielded ops a.tmps) = true) (s x : Operand)
    (ho : o.op = .call { callee := .builtin .append, args := #[s, x], argTypes := #[22, 22] })
    (B : Nat) (v : Value) (n bn : Nat) (R : List TR) (t : TR) (hs : a.eval s = v) (hx : a.eval x = .slice (some ⟨bn, 0, none⟩) 1 1) (hown : W.ownsRow B 44 12 v n (trs R)) (ht : XFix W bn 0 t.1 t.2.v)
    (hlen : (n + 1) * 112 ≤ 140737488355328) (hB : B ≤ W.heap.size)
    (h : ∀ A' c' w', w'.ownsRow B 44 12 (.slice A' (n + 1) c') (n + 1) (trs (R ++ [t])) → W.grownBy w' v.ownBlock → ((Value.slice A' (n + 1) c').ownBlock = v.ownBlock ∨ (Value.slice A' (n + 1) c').ownBlock = some W.heap.size) → wpList Try.prog ops Q rest (a.put o.dst (.slice A' (n + 1) c')) w') :
    wpList Try.prog ops Q (o :: rest) a W := by
  obtain ⟨i0, hi, hz0, hz1, hz2⟩ := info_parts infoTxn
  have h1 : ∀ u ∈ trcells t, u.oneCell' = true := fun u hu => trs_one [t] u (by unfold trs; simpa using hu)
  refine Go.BigFrame.wpList_want hw (fun K hK => ?_)
  refine wp_append_sl W s x 22 ho B 44 i0 _ 12 112 Try.underlying22 hi hz0 hz1 hz2 rfl (by decide) v n (trs R) hs hown (.slice (some ⟨bn, 0, none⟩) 1 1) 1 (trcells t) hx
    ⟨_, 1, rfl, Nat.le_refl _, ⟨by unfold maxLen; omega, fun e => by cases e⟩, by rw [trcells_len], fun j u hj => ⟨bn, 0, rfl, trcells_at ht hj⟩⟩ h1 (by unfold maxLen; omega) hlen hB (n + 1) rfl ?_
  intro A' c' w' hown' hgr hbk
  rw [← trs_snoc] at hown'
  exact hK _ _ (h A' c' w' hown' hgr hbk)
def FitS (D : List ST) : Prop := ∀ d ∈ D, d.t.ops.length * 48 ≤ 140737488355328 ∧ ∀ o ∈ d.t.ops, o.key.size ≤ 281474976710656 ∧ o.elem.size ≤ 281474976710656
theorem stbox (w : World) (d : ST) : ∃ W, W = w.alloc (.cells #[.pointer (some ⟨d.b, d.o, none⟩), .int .i64 (d.m : Int), .int .i64 (d.k : Int)] 66) ∧ Gr w W ∧ W.cell? ⟨w.heap.size, 0, none⟩ = some (.pointer (some ⟨d.b, d.o, none⟩)) := by
  refine ⟨_, rfl, (Gr.refl w).alloc _, ?_⟩
  rw [World.cell?_alloc_at _ _ _ _ rfl]; rfl
/-- What the rounds of copies leave. -/
structure CsR (w : World) (L : List TX) (s : Value) (R : List TR) (wr : World) : Prop where
  own : wr.ownsRow w.heap.size 44 12 s R.length (trs R)
  tx : texts R = L
  ops : TOn wr w.heap.size R
  gr : Gr w wr
theorem CsR.next {w : World} {L : List TX} {s : Value} {R : List TR} {wr w' : World} (h : CsR w L s R wr) (g : Gr wr w') : CsR w L s R w' := ⟨own_gr h.own g, h.tx, h.ops.mid (Mid.of_gr g), h.gr.trans g⟩
theorem CsR.more {w : World} {L : List TX} {A A' : Option Addr} {n c c' : Nat} {R : List TR} {wr w' : World} {y : TR} (h : CsR w L (.slice A n c) R wr) (hn : n = R.length) (hy : TOO wr w.heap.size y.2.v y.1.ops)
    (ho : w'.ownsRow w.heap.size 44 12 (.slice A' (n + 1) c') (n + 1) (trs (R ++ [y]))) (kp : wr.grownBy w' (Value.slice A n c).ownBlock) : CsR w (L ++ [y.1]) (.slice A' (n + 1) c') (R ++ [y]) w' := by
  subst hn
  refine ⟨by rw [List.length_append]; exact ho, by unfold texts; rw [List.map_append, show R.map (·.1) = L from h.tx]; rfl, fun r hr => ?_, h.gr.grown h.own (Nat.le_refl _) kp⟩
  rcases List.mem_append.1 hr with hr | hr
  · exact TOO.grown (h.ops r hr) h.own (Nat.le_refl _) kp
  · simp only [List.mem_singleton] at hr
    subst hr
    exact TOO.grown hy h.own (Nat.le_refl _) kp

set_option maxRecDepth 100000 in
set_option maxHeartbeats 4000000 in
theorem copies_any (v : Value) (D : List ST) (w : World) (h : SDV w v D) (hx : SXs w D) (hf : FitS D) (hlen : D.length ≤ 1000000) :
    Calls Try.prog 42 #[v] w fun e w' => ∃ s, e = .returned s ∧ XN w' w.heap.size s (D.map (·.t)) ∧ Gr w w' := by
  obtain ⟨A, c, hv, hnc, -, hat⟩ := h
  subst hv
  have HAT : Hid (∀ j (hj : j < D.length), ∃ b off, A = some ⟨b, off, none⟩ ∧ SCell w b (off + j * 3) D[j]) := Lib.hid hat
  have HX := Lib.hid hx
  have HF := Lib.hid hf
  obtain ⟨n, hn⟩ : ∃ n, n = D.length := ⟨_, rfl⟩
  rw [← hn] at hlen ⊢
  have HN := Lib.hid hn
  clear hnc hat hx hn hf
  go_enter Try.func42, Try.ntmps42
  go_wp2_with fail
  go_loopw [3, 8] (fun s i wr => ∃ j : Nat, j ≤ n ∧ i = .int .i64 j ∧ Hid (∃ R, CsR w ((D.take j).map (·.t)) s R wr)) (fun _ i _ => n - (intOf i).toNat)
  case atStart => exact ⟨0, Nat.zero_le _, rfl, Lib.hid ⟨[], ⟨World.ownsRow_nil _ _ _ _, rfl, fun _ h => (by cases h), Gr.refl _⟩⟩⟩
  case round =>
    obtain ⟨j, hj, rfl, hst⟩ := hrel
    rename World => wr
    by_cases hjn : j < n
    · have hj0 : (0 : Int) ≤ (j : Int) := Int.natCast_nonneg _
      have hjn1 : (j : Int) < (n : Int) := by omega
      have hjl : j < D.length := by rw [← HN.out]; exact hjn
      obtain ⟨R, hcs⟩ := hst.out
      obtain ⟨b, off, hA, hc0⟩ := HAT.out j hjl
      subst hA
      obtain ⟨d, hd⟩ : ∃ d, d = D[j] := ⟨_, rfl⟩
      rw [← hd] at hc0
      obtain ⟨c0, c1, c2⟩ := hc0.gr hcs.gr
      have hmem : d ∈ D := by rw [hd]; exact List.getElem_mem hjl
      have hdx : XCell wr d.b d.o d.t := (HX.out d hmem).gr hcs.gr
      have hfd := HF.out d hmem
      obtain ⟨W5, hW5, hg5, y0⟩ := stbox wr d
      obtain ⟨vx, hvx, hfx⟩ := hdx.gr hg5
      have HCP := Lib.hid (copy8_any d.t vx W5 hvx hfd.1 hfd.2)
      obtain ⟨Ax, cx, hvf⟩ := tov_form hvx
      subst hvf
      obtain ⟨db, hdb⟩ : ∃ x, x = d.b := ⟨_, rfl⟩
      obtain ⟨dk, hdk⟩ : ∃ x, x = d.o := ⟨_, rfl⟩
      obtain ⟨dm, hdm⟩ : ∃ x, x = d.m := ⟨_, rfl⟩
      obtain ⟨di, hdi⟩ : ∃ x, x = d.k := ⟨_, rfl⟩
      obtain ⟨t, ht⟩ : ∃ x, x = d.t := ⟨_, rfl⟩
      obtain ⟨nx, hnx⟩ : ∃ x, x = d.t.ops.length := ⟨_, rfl⟩
      rw [← hnx] at hfx HCP
      rw [← ht] at hfx HCP hnx
      rw [← hdb, ← hdk] at hfx c0 y0 hW5
      rw [← hdm] at c1 hW5
      rw [← hdi] at c2 hW5
      obtain ⟨A2, c2', hs2, -, -⟩ := own_form hcs.own
      subst hs2
      obtain ⟨n2, hn2⟩ : ∃ n, n = R.length := ⟨_, rfl⟩
      have hRl : R.length = j := by rw [← texts_len, hcs.tx, List.length_map, List.length_take]; omega
      have hln : (n2 + 1) * 112 ≤ 140737488355328 := by omega
      rw [← hn2]
      rw [← hn2] at hcs
      have HCS := Lib.hid (hcs.next hg5)
      have HN2 := Lib.hid hn2
      have HNX := Lib.hid hnx
      have HTJ : Hid ((D.take (j + 1)).map (·.t) = (D.take j).map (·.t) ++ [t]) := Lib.hid (by rw [List.take_add_one, List.getElem?_eq_getElem hjl, List.map_append, ← hd, ht]; rfl)
      have HWS := Lib.hid (show w.heap.size ≤ W5.heap.size by have := hcs.gr.size; have := hg5.size; omega)
      obtain ⟨x0, x1, x2, x3, x4, x5, x6, x7, x8, x9, x10, x11⟩ := hfx
      clear hc0 hmem hdx hfd hg5 hvx hst hd hdb hdk hdm hdi ht hnx hn2 hRl hcs
      go_upto_region 5 with (fail)
      rw [← hW5]
      clear hW5 c0 c1 c2
      go_wp2_with fail
      refine HCP.out.mono ?_
      rintro e w6 ⟨u6, rfl, ho6, g6⟩
      obtain ⟨A6, c6, rfl, -, -⟩ := ho6.form
      rw [← HNX.out] at ho6 ⊢
      obtain ⟨W8, hW8, hg8, hx8⟩ := xbox w6 t (.slice A6 nx c6)
      have HX8 := Lib.hid hx8
      have HO8 : Hid (TOO W8 w.heap.size (S3.v ⟨A6, nx, c6⟩) t.ops) := Lib.hid (own_gr (own_le ho6 HWS.out) hg8)
      have HCS8 := Lib.hid ((HCS.out.next g6).next hg8)
      have HB8 : Hid (w.heap.size ≤ W8.heap.size) := Lib.hid (by have := HWS.out; have := g6.size; have := hg8.size; omega)
      clear ho6 g6 hx8 hg8 x0 x1 x2 x3 x4 x5 x6 x7 x8 x9 x10 x11 y0
      go_wp2_with (at_builtin; rw [← hW8]; refine wpList_push_tx2 rfl (.tmp 12) (.tmp 18) rfl w.heap.size (.slice A2 n2 c2') n2 w6.heap.size R (t, ⟨A6, nx, c6⟩) rfl rfl (by have := HCS8.out.own; rw [← HN2.out] at this; exact this) HX8.out hln HB8.out ?_)
      intro A9 c9 w9 hown9 kp9 hbk9
      rw [← hW8] at kp9
      have HS : Hid (∃ R, CsR w ((D.take (j + 1)).map (·.t)) (.slice A9 (n2 + 1) c9) R w9) := Lib.hid ⟨_, by rw [HTJ.out]; exact HCS8.out.more HN2.out (y := (t, ⟨A6, nx, c6⟩)) HO8.out hown9 kp9⟩
      clear hown9 kp9 hbk9 hW8
      go_wp2_with fail
      go_roundw
      case measure => simp [intOf]; omega
      case rel => exact ⟨j + 1, by omega, by go_num, HS⟩
    · obtain rfl : j = n := by omega
      obtain ⟨R, hcs⟩ := hst.out
      have HE : Hid (XN wr w.heap.size u3 (D.map (·.t)) ∧ Gr w wr) := Lib.hid ⟨⟨R, by rw [hcs.tx, HN.out, List.take_length], hcs.own, hcs.ops⟩, hcs.gr⟩
      clear hst hcs
      go_wp2_with fail
      go_ret
      exact ⟨_, rfl, HE.out⟩
/-- What Order answers: the cut's transactions, sorted. -/
def OrdQ (l : LG) (v : Nat → Nat) (Q : List (TX × Nat × Nat)) : Prop := Q.Perm (sAll l (mt v (sizeV l)) 8) ∧ SortedP Q
set_option maxRecDepth 100000 in
set_option maxHeartbeats 4000000 in
theorem order9_any (u : Nat → S3) (l : LG) (v : Nat → Nat) (w : World) (h : LV w u l) (hf : FitC l) (hlen : ∀ i, i < 8 → (l i).length ≤ 1024) :
    Calls Try.prog 23 #[.agg (lcells u), .agg (vcells v)] w fun e w' => ∃ s Q, e = .returned s ∧ OrdQ l v Q ∧ XN w' w.heap.size s (Q.map (·.1)) ∧ Gr w w' := by
  obtain ⟨W, hW, hg, hsz, hL, hV⟩ := boxesLV u v w
  have HG := Lib.hid hg
  have HST := Lib.hid (stands_any u l v W (h.gr hg) hlen)
  have HFL := Lib.hid hf
  have HLN := Lib.hid hlen
  obtain ⟨l0, l1, l2, l3, l4, l5, l6, l7⟩ := hL.all
  obtain ⟨v0, v1, v2, v3, v4, v5, v6, v7⟩ := hV.all
  clear hL hV hg hsz h hf hlen
  go_enter Try.func23, Try.ntmps23
  go_upto_region 1 with (fail)
  rw [← hW]
  clear hW
  go_wp2_with fail
  refine HST.out.mono ?_
  rintro e w2 ⟨s, D, rfl, hd⟩
  obtain ⟨A, c, rfl⟩ := slice_sd hd.own
  obtain ⟨n, hn⟩ : ∃ n, n = D.length := ⟨_, rfl⟩
  have hDl : D.length ≤ 8192 := by
    have e1 : D.length = (ssh D).length := (List.length_map _).symm
    rw [e1, hd.sh]
    exact sAll_len l _ (fun i hi => Nat.le_trans (Nat.min_le_right _ _) (HLN.out i hi)) 8 (Nat.le_refl _)
  have HSO := Lib.hid (sort_any D A n c W w2 hd.gr (by rw [hn]; exact hd.own) hn hd.xs hd.lt (by omega))
  have HD := Lib.hid hd
  have HDL := Lib.hid hDl
  rw [← hn]
  clear hd hn hDl l0 l1 l2 l3 l4 l5 l6 l7 v0 v1 v2 v3 v4 v5 v6 v7
  go_wp2_with fail
  refine HSO.out.mono ?_
  rintro e w3 ⟨rfl, D', hsd, hpm, hss, g3⟩
  have HFS : Hid (FitS D') := Lib.hid fun d hd => by
    have h1 : d ∈ D := hpm.mem_iff.1 hd
    have h2 : (d.t, d.m, d.k) ∈ ssh D := List.mem_map_of_mem h1
    rw [HD.out.sh] at h2
    have h3 : ∀ i, i ≤ 8 → ∀ p ∈ sAll l (mt v (sizeV l)) i, ∃ j, j < i ∧ p.1 ∈ l j := by
      intro i hi
      induction i with
      | zero => intro p hp; cases hp
      | succ i ih =>
        intro p hp
        rcases List.mem_append.1 hp with hp | hp
        · obtain ⟨j, hj, hm⟩ := ih (by omega) p hp
          exact ⟨j, by omega, hm⟩
        · refine ⟨i, Nat.lt_succ_self _, ?_⟩
          have h4 : ∀ d, ∀ p ∈ sLog l i d, p.1 ∈ l i := by
            intro d
            induction d with
            | zero => intro p hp; cases hp
            | succ d ih2 =>
              intro p hp
              rcases List.mem_append.1 hp with hp | hp
              · exact ih2 p hp
              · split at hp
                · next t ht =>
                  simp only [List.mem_singleton] at hp
                  subst hp
                  exact List.mem_of_getElem? ht
                · cases hp
          exact h4 _ p hp
    obtain ⟨j, hj, hm⟩ := h3 8 (Nat.le_refl _) _ h2
    exact HFL.out.tx j d.t hj hm
  have HQ : Hid (OrdQ l v (D'.map shp)) := Lib.hid ⟨by have := hpm.map shp; rw [show D.map shp = sAll l (mt v (sizeV l)) 8 from HD.out.sh] at this; exact this, hss⟩
  have HCO := Lib.hid (copies_any (.slice A n c) D' w3 hsd (fun d hd => (HD.out.xs d (hpm.mem_iff.1 hd)).gr g3) HFS.out (by rw [hpm.length_eq]; have := HDL.out; omega))
  have HTM : Hid (D'.map (·.t) = (D'.map shp).map (·.1)) := Lib.hid (by rw [List.map_map]; rfl)
  have HG3 := Lib.hid (HG.out.trans g3)
  clear hsd hpm hss g3
  go_wp2_with fail
  refine HCO.out.mono ?_
  rintro e w4 ⟨s4, rfl, hx4, g4⟩
  have HE : Hid (XN w4 w.heap.size s4 ((D'.map shp).map (·.1)) ∧ Gr w w4) := Lib.hid ⟨by rw [← HTM.out]; exact hx4.le HG3.out.size, HG3.out.trans g4⟩
  clear hx4 g4
  go_wp2_with fail
  go_ret
  exact ⟨_, _, rfl, HQ.out, HE.out⟩
end Go.Proofs.Ytlgljanofppleaa
/-! Mathematics: the order of a closed cut's transactions: each once, behind all that it depends on. -/
namespace Go.Proofs.Ytlgljanofppleaa
open Go.RowKit Go.Joins

theorem sLog_mem {l : LG} {i : Nat} {p : TX × Nat × Nat} : ∀ {d : Nat}, p ∈ sLog l i d ↔ ∃ k t, k < d ∧ (l i)[k]? = some t ∧ p = (t, i, k)
  | 0 => ⟨fun h => (by cases h), fun ⟨k, _, h, _⟩ => absurd h (Nat.not_lt_zero _)⟩
  | d + 1 => by
    unfold sLog
    rw [List.mem_append, sLog_mem]
    refine ⟨fun h => ?_, fun ⟨k, t, hk, ht, hp⟩ => ?_⟩
    · rcases h with ⟨k, t, hk, ht, hp⟩ | h
      · exact ⟨k, t, by omega, ht, hp⟩
      · split at h
        · next t ht =>
          simp only [List.mem_singleton] at h
          exact ⟨d, t, Nat.lt_succ_self _, ht, h⟩
        · cases h
    · by_cases e : k = d
      · subst e
        right
        rw [ht]
        simp [hp]
      · exact .inl ⟨k, t, by omega, ht, hp⟩
theorem sAll_mem {l : LG} {v : Nat → Nat} {p : TX × Nat × Nat} : ∀ {i : Nat}, p ∈ sAll l v i ↔ ∃ m k t, m < i ∧ k < v m ∧ (l m)[k]? = some t ∧ p = (t, m, k)
  | 0 => ⟨fun h => (by cases h), fun ⟨m, _, _, h, _⟩ => absurd h (Nat.not_lt_zero _)⟩
  | i + 1 => by
    unfold sAll
    rw [List.mem_append, sAll_mem, sLog_mem]
    refine ⟨fun h => ?_, fun ⟨m, k, t, hm, hk, ht, hp⟩ => ?_⟩
    · rcases h with ⟨m, k, t, hm, hk, ht, hp⟩ | ⟨k, t, hk, ht, hp⟩
      · exact ⟨m, k, t, by omega, hk, ht, hp⟩
      · exact ⟨i, k, t, Nat.lt_succ_self _, hk, ht, hp⟩
    · by_cases e : m = i
      · subst e; exact .inr ⟨k, t, hk, ht, hp⟩
      · exact .inl ⟨m, k, t, by omega, hk, ht, hp⟩
def ofM (j : Nat) (p : TX × Nat × Nat) : Bool := decide (p.2.1 = j)
theorem sLog_of {l : LG} {i : Nat} (d : Nat) : (sLog l i d).filter (ofM i) = sLog l i d := List.filter_eq_self.2 fun p hp => by
  obtain ⟨k, t, _, _, rfl⟩ := sLog_mem.1 hp
  exact decide_eq_true rfl
theorem sLog_other {l : LG} {i j : Nat} (h : i ≠ j) (d : Nat) : (sLog l i d).filter (ofM j) = [] := List.filter_eq_nil_iff.2 fun p hp => by
  obtain ⟨k, t, _, _, rfl⟩ := sLog_mem.1 hp
  simp [ofM, h]
theorem sAll_past {l : LG} {v : Nat → Nat} {j : Nat} : ∀ {i : Nat}, i ≤ j → (sAll l v i).filter (ofM j) = []
  | 0, _ => rfl
  | i + 1, h => by
    unfold sAll
    rw [List.filter_append, sAll_past (by omega), sLog_other (by omega)]
    rfl
theorem sAll_of {l : LG} {v : Nat → Nat} {j : Nat} : ∀ {i : Nat}, j < i → (sAll l v i).filter (ofM j) = sLog l j (v j)
  | 0, h => absurd h (Nat.not_lt_zero _)
  | i + 1, h => by
    unfold sAll
    rw [List.filter_append]
    by_cases e : i = j
    · subst e
      rw [sAll_past (Nat.le_refl _), sLog_of]
      rfl
    · rw [sAll_of (by omega), sLog_other e, List.append_nil]
theorem sLog_length {l : LG} {i : Nat} : ∀ {d : Nat}, d ≤ (l i).length → (sLog l i d).length = d
  | 0, _ => rfl
  | d + 1, h => by
    rw [sLog_at (List.getElem?_eq_getElem (by omega)), List.length_append, sLog_length (by omega)]
    rfl
theorem sLog_get {l : LG} {i : Nat} : ∀ {d p : Nat} {x : TX × Nat × Nat}, d ≤ (l i).length → (sLog l i d)[p]? = some x → x.2.2 = p
  | 0, p, x, _, h => by simp [sLog] at h
  | d + 1, p, x, hd, h => by
    rw [sLog_at (List.getElem?_eq_getElem (by omega))] at h
    by_cases e : p < d
    · rw [List.getElem?_append_left (by rw [sLog_length (by omega)]; exact e)] at h
      exact sLog_get (by omega) h
    · rw [List.getElem?_append_right (by rw [sLog_length (by omega)]; omega), sLog_length (by omega)] at h
      have hp : p = d := by
        have := (List.getElem?_eq_some_iff.1 h).1
        simp at this
        omega
      subst hp
      rw [Nat.sub_self] at h
      injection h with h
      rw [← h]
/-- Stamps rise within a log, however far. -/
theorem OkL.rises {l : LG} (h : OkL l) {i : Nat} (hi : i < 8) {k : Nat} {t : TX} (ht : (l i)[k]? = some t) : ∀ (d : Nat) {u : TX}, (l i)[k + 1 + d]? = some u → t.stamp < u.stamp
  | 0, u, hu => h.rise hi ht hu
  | d + 1, u, hu => by
    have hlt : k + 1 + (d + 1) < (l i).length := (List.getElem?_eq_some_iff.1 hu).1
    have h1 := h.rises hi ht d (List.getElem?_eq_getElem (show k + 1 + d < (l i).length by omega))
    have h2 := h.rise hi (List.getElem?_eq_getElem (show k + 1 + d < (l i).length by omega)) (show (l i)[k + 1 + d + 1]? = some u from hu)
    omega
theorem ltP_stamp {p q : TX × Nat × Nat} (h : p.1.stamp < q.1.stamp) : ltP p q := by
  unfold ltP keyP
  rw [lexZ_cons]
  exact .inl (by omega)
section
variable {l : LG} {c : Nat → Nat} {Q : List (TX × Nat × Nat)}
theorem ordQ_mem (hq : OrdQ l c Q) (hc : leqB c (sizeV l) = true) {p : TX × Nat × Nat} : p ∈ Q ↔ ∃ m k t, m < 8 ∧ k < c m ∧ (l m)[k]? = some t ∧ p = (t, m, k) := by
  rw [hq.1.mem_iff, sAll_mem]
  refine ⟨fun ⟨m, k, t, hm, hk, ht, hp⟩ => ⟨m, k, t, hm, Nat.lt_of_lt_of_le hk (Nat.min_le_left _ _), ht, hp⟩, fun ⟨m, k, t, hm, hk, ht, hp⟩ => ⟨m, k, t, hm, ?_, ht, hp⟩⟩
  have := lq hc hm
  show k < min (c m) (sizeV l m)
  omega
/-- Of each member the transactions stand in the log's order. -/
theorem ordQ_of (ok : OkL l) (hq : OrdQ l c Q) (hc : leqB c (sizeV l) = true) {j : Nat} (hj : j < 8) : Q.filter (ofM j) = sLog l j (c j) := by
  have hp : (Q.filter (ofM j)).Perm (sLog l j (c j)) := by
    have h1 := hq.1.filter (ofM j)
    rw [sAll_of hj] at h1
    have h2 : mt c (sizeV l) j = c j := Nat.min_eq_left (lq hc hj)
    rw [h2] at h1
    exact h1
  refine List.Perm.eq_of_pairwise (le := fun p q : TX × Nat × Nat => p.2.2 ≤ q.2.2) (fun a b ha hb h1 h2 => ?_) ?_ ?_ hp
  · obtain ⟨k, t, _, ht, rfl⟩ := sLog_mem.1 (hp.mem_iff.1 ha)
    obtain ⟨k', t', _, ht', rfl⟩ := sLog_mem.1 hb
    have e : k = k' := by
      have h1 : k ≤ k' := h1
      have h2 : k' ≤ k := h2
      omega
    subst e
    rw [ht] at ht'
    injection ht' with e
    rw [e]
  · refine List.Pairwise.imp_of_mem ?_ (hq.2.filter (ofM j))
    intro a b ha hb hab
    obtain ⟨k, t, _, ht, rfl⟩ := sLog_mem.1 (hp.mem_iff.1 ha)
    obtain ⟨k', t', _, ht', rfl⟩ := sLog_mem.1 (hp.mem_iff.1 hb)
    show k ≤ k'
    rcases Nat.lt_or_ge k' k with h | h
    · exfalso
      refine hab (ltP_stamp ?_)
      have e : k = k' + 1 + (k - (k' + 1)) := by omega
      rw [e] at ht
      exact ok.rises hj ht' (k - (k' + 1)) ht
    · exact h
  · rw [List.pairwise_iff_getElem]
    intro a b ha hb hab
    have hcl : c j ≤ (l j).length := lq hc hj
    have e1 := sLog_get hcl (List.getElem?_eq_getElem ha)
    have e2 := sLog_get hcl (List.getElem?_eq_getElem hb)
    omega
/-- How many of the first i are member j's. -/
def cntQ (Q : List (TX × Nat × Nat)) (i j : Nat) : Nat := ((Q.take i).filter (ofM j)).length
theorem cntQ_zero (j : Nat) : cntQ Q 0 j = 0 := rfl
theorem cntQ_next {i : Nat} {p : TX × Nat × Nat} (h : Q[i]? = some p) : cntQ Q (i + 1) = upd (cntQ Q i) p.2.1 (cntQ Q i p.2.1 + 1) := by
  funext j
  have e : cntQ Q (i + 1) j = cntQ Q i j + (if ofM j p = true then 1 else 0) := by
    unfold cntQ
    rw [List.take_add_one, h, List.filter_append, List.length_append]
    simp only [Option.toList, List.filter_cons, List.filter_nil]
    split <;> simp
  rw [e]
  unfold upd ofM
  by_cases q : j = p.2.1
  · subst q; simp
  · rw [if_neg q, if_neg (by simp only [decide_eq_true_eq]; exact fun x => q x.symm)]
    rfl
theorem cntQ_mono {i i' j : Nat} (h : i ≤ i') : cntQ Q i j ≤ cntQ Q i' j := by
  unfold cntQ
  have e : Q.take i = (Q.take i').take i := by rw [List.take_take, Nat.min_eq_left h]
  rw [e]
  exact ((List.take_sublist i (Q.take i')).filter (ofM j)).length_le
theorem cntQ_all (ok : OkL l) (hq : OrdQ l c Q) (hc : leqB c (sizeV l) = true) {j : Nat} (hj : j < 8) : cntQ Q Q.length j = c j := by
  unfold cntQ
  rw [List.take_length, ordQ_of ok hq hc hj, sLog_length (lq hc hj)]
/-- A transaction's place in its log is how many of its member's stand ahead of it. -/
theorem cntQ_at (ok : OkL l) (hq : OrdQ l c Q) (hc : leqB c (sizeV l) = true) {i : Nat} {p : TX × Nat × Nat} (h : Q[i]? = some p) : p.2.2 = cntQ Q i p.2.1 := by
  obtain ⟨m, k, t, hm, hk, ht, rfl⟩ := (ordQ_mem hq hc).1 (List.mem_of_getElem? h)
  have hF := ordQ_of ok hq hc hm
  have hsp : Q = Q.take i ++ (t, m, k) :: Q.drop (i + 1) := by
    have hi := (List.getElem?_eq_some_iff.1 h).1
    have e := (List.getElem?_eq_some_iff.1 h).2
    rw [← e, List.getElem_cons_drop, List.take_append_drop]
  have hF2 : (Q.take i).filter (ofM m) ++ (t, m, k) :: (Q.drop (i + 1)).filter (ofM m) = sLog l m (c m) := by
    rw [← hF]
    conv => rhs; rw [hsp]
    rw [List.filter_append, List.filter_cons, if_pos (show ofM m (t, m, k) = true from decide_eq_true rfl)]
  have hg : (sLog l m (c m))[cntQ Q i m]? = some (t, m, k) := by
    rw [← hF2]
    unfold cntQ
    rw [List.getElem?_append_right (Nat.le_refl _), Nat.sub_self]
    rfl
  exact sLog_get (lq hc hm) hg
/-- What a transaction depends on stands ahead of it. -/
theorem cntQ_deps (ok : OkL l) (hq : OrdQ l c Q) (hc : closedP l c) {i : Nat} {p : TX × Nat × Nat} (h : Q[i]? = some p) : leqB p.1.deps (cntQ Q i) = true := by
  obtain ⟨m, k, t, hm, hk, ht, rfl⟩ := (ordQ_mem hq hc.1).1 (List.mem_of_getElem? h)
  refine lq_of fun j hj => ?_
  show t.deps j ≤ _
  cases hd : t.deps j with
  | zero => exact Nat.zero_le _
  | succ d =>
    have h1 : t.deps j ≤ c j := lq (hc.2 m k t hm hk ht) hj
    have hl : c j ≤ (l j).length := lq hc.1 hj
    have hx : (l j)[d]? = some ((l j)[d]'(by omega)) := List.getElem?_eq_getElem (by omega)
    have hs := ok.before hm hj ht hx hd
    have hmem : (((l j)[d]'(by omega)), j, d) ∈ Q := (ordQ_mem hq hc.1).2 ⟨j, d, _, hj, by omega, hx, rfl⟩
    obtain ⟨i2, hi2⟩ := List.mem_iff_getElem?.1 hmem
    have hlt : i2 < i := by
      rcases Nat.lt_trichotomy i2 i with q | q | q
      · exact q
      · subst q
        rw [h] at hi2
        injection hi2 with e
        have e1 : t = (l j)[d]'(by omega) := congrArg (·.1) e
        rw [← e1] at hs
        omega
      · exfalso
        have hi := (List.getElem?_eq_some_iff.1 h)
        have hj2 := (List.getElem?_eq_some_iff.1 hi2)
        have hsp := List.pairwise_iff_getElem.1 hq.2 i i2 hi.1 hj2.1 q
        rw [hi.2, hj2.2] at hsp
        exact hsp (ltP_stamp hs)
    have h2 := cntQ_at ok hq hc.1 hi2
    have h3 : cntQ Q (i2 + 1) j = cntQ Q i2 j + 1 := by
      rw [cntQ_next hi2]
      unfold upd
      rw [if_pos rfl]
    have h4 := cntQ_mono (Q := Q) (i := i2 + 1) (i' := i) (j := j) hlt
    have h5 : d = cntQ Q i2 j := h2
    omega
end
end Go.Proofs.Ytlgljanofppleaa
