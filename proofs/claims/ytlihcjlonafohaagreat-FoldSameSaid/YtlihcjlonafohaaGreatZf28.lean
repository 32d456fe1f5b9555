/- Walks: the document's places. Walks: the document's answered, covered, firm. -/
import Derived.Test.YtlihcjlonafohaaGreatZf19
import Derived.Test.YtlihcjlonafohaaGreatZf15
namespace Go.Proofs.YtlihcjlonafohaaGreat
open Go.RowKit Go.Joins
set_option linter.unusedSimpArgs false
set_option linter.unusedVariables false

abbrev PR := (TX × Nat) × Value
def pcl (r : PR) : List Value := (pcs r.1.1 r.2 r.1.2).toList
theorem pcl_len (r : PR) : (pcl r).length = 13 := rfl
def pcells (R : List PR) : List Value := R.flatMap pcl
/-- The call owns this row of places. -/
def PLO (w : World) (B : Nat) (v : Value) (R : List PR) : Prop := w.ownsRow B 106 13 v R.length (pcells R)
/-- The places' lists of operations lie there. -/
def PLT (w : World) (R : List PR) : Prop := ∀ r ∈ R, TOV w r.2 r.1.1.ops
theorem PLO.gr {w w' : World} {B : Nat} {v : Value} {R : List PR} (h : PLO w B v R) (g : Gr w w') : PLO w' B v R := own_gr h g
theorem PLT.gr {w w' : World} {R : List PR} (h : PLT w R) (g : Gr w w') : PLT w' R := fun r hr => (h r hr).gr g
theorem PLO.nil (w : World) (B : Nat) : PLO w B (.slice none 0 0) [] := World.ownsRow_nil w B _ _
theorem pcl_one {w : World} {r : PR} (h : TOV w r.2 r.1.1.ops) : ∀ u ∈ pcl r, u.oneCell' = true := by
  obtain ⟨A, c, hv, _⟩ := h
  intro u hu
  unfold pcl at hu
  rw [hv] at hu
  simp only [List.mem_cons, List.not_mem_nil, or_false] at hu
  rcases hu with rfl | rfl | rfl | rfl | rfl | rfl | rfl | rfl | rfl | rfl | rfl | rfl | rfl <;> rfl
theorem PLO.plv {w : World} {B : Nat} {v : Value} {R : List PR} (h : PLO w B v R) (ht : PLT w R) : PLV w v (R.map (·.1)) := by
  obtain ⟨A, c, hv, h1, ⟨h2, h2'⟩, h3, h4⟩ := own_sl h
  refine ⟨A, c, by rw [List.length_map]; exact hv, by rw [List.length_map]; exact h1, ⟨h2, h2'⟩, fun j hj => ?_⟩
  have hjR : j < R.length := by simpa using hj
  have at_ : ∀ r, r < 13 → (pcells R)[j * 13 + r]? = (pcl R[j])[r]? := fun r hr => rows_at pcl 13 pcl_len R j r hjR hr
  obtain ⟨b, off, ha, c0⟩ := h4 (j * 13 + 0) _ (at_ 0 (by decide))
  have cc : ∀ r, r < 13 → ∀ u, (pcl R[j])[r]? = some u → w.cell? ⟨b, off + (j * 13 + r), none⟩ = some u := fun r hr u hu => by
    obtain ⟨b', off', ha', c'⟩ := h4 (j * 13 + r) u (by rw [at_ r hr]; exact hu)
    rw [ha] at ha'
    injection ha' with ha'
    injection ha' with e1 e2
    subst e1 e2
    exact c'
  refine ⟨b, off, ha, ?_⟩
  rw [List.getElem_map]
  refine ⟨R[j].2, ht _ (List.getElem_mem hjR), ⟨?_, ?_, ?_, ?_, ?_, ?_, ?_, ?_, ?_, ?_, ?_, ?_⟩, ?_⟩
  · have := cc 0 (by decide) _ rfl; rw [← Nat.add_assoc] at this; exact this
  all_goals rw [Nat.add_assoc]
  · exact cc 1 (by decide) _ rfl
  · exact cc 2 (by decide) _ rfl
  · exact cc 3 (by decide) _ rfl
  · exact cc 4 (by decide) _ rfl
  · exact cc 5 (by decide) _ rfl
  · exact cc 6 (by decide) _ rfl
  · exact cc 7 (by decide) _ rfl
  · exact cc 8 (by decide) _ rfl
  · exact cc 9 (by decide) _ rfl
  · exact cc 10 (by decide) _ rfl
  · exact cc 11 (by decide) _ rfl
  · exact cc 12 (by decide) _ rfl
theorem infoPlace : (Tryz.prog.info? 106).map (fun i => (i.zero, i.size, i.bytes)) = some (some (.agg #[.int .i64 0, .int .u64 0, .int .u64 0, .int .u64 0, .int .u64 0, .int .u64 0, .int .u64 0, .int .u64 0, .int .u64 0, .int .u64 0, .int .u64 0, .slice none 0 0, .int .i64 0]), 13, 120) := by kernel_rfl
/-- append of one place to a row of the call's own. -/
theorem wpList_push_pl {W w0 : World} {ops : Array Oper} {rest : List Oper} {o : Oper} {a : Act} {Q : Exit → Act → World → Prop} (hw : Region.wanted o (yielded ops a.tmps) = true) (s x : Operand)
    (ho : o.op = .call { callee := .builtin .append, args := #[s, x], argTypes := #[101, 101] })
    (v : Value) (b : Nat) (R : List PR) (r : PR) (n : Nat) (hn : n = R.length) (hs : a.eval s = v) (hown : PLO W w0.heap.size v R) (hx : a.eval x = .slice (some ⟨b, 0, none⟩) 1 1)
    (hb : W.heap[b]? = some (.cells (pcs r.1.1 r.2 r.1.2) 106 (0, 0))) (hr : TOV w0 r.2 r.1.1.ops) (hlen : (n + 1) * 120 ≤ 140737488355328) (hg : Gr w0 W)
    (h : ∀ A' c' w', PLO w' w0.heap.size (.slice A' (n + 1) c') (R ++ [r]) → Gr w0 w' → wpList Tryz.prog ops Q rest (a.put o.dst (.slice A' (n + 1) c')) w') :
    wpList Tryz.prog ops Q (o :: rest) a W := by
  subst hn
  obtain ⟨i0, hi, hz0, hz1, hz2⟩ := info_parts infoPlace
  have hsz := hg.size
  have hsl : SL W 13 (.slice (some ⟨b, 0, none⟩) 1 1) 1 (pcl r) := ⟨_, 1, rfl, Nat.le_refl _, ⟨by unfold maxLen; omega, fun e => by cases e⟩, by rw [pcl_len], fun j u hj => ⟨b, 0, rfl, by
    rw [Nat.zero_add]
    refine (obj_cell hb (i := j) ?_)
    rw [← Array.getElem?_toList]
    exact hj⟩⟩
  refine Go.BigFrame.wpList_want hw (fun K hK => ?_)
  refine wp_append_sl W s x 101 ho w0.heap.size 106 i0 _ 13 120 Tryz.underlying101 hi hz0 hz1 hz2 rfl (by decide) v R.length (pcells R) hs hown (.slice (some ⟨b, 0, none⟩) 1 1) 1 (pcl r) hx
    hsl (pcl_one hr) (by unfold maxLen; omega) hlen hsz (R.length + 1) rfl ?_
  intro A' c' w' hown' hgr _
  refine hK _ _ (h A' c' w' ?_ (gr_of_grown hg hown hgr hsz))
  unfold PLO
  rw [List.length_append]
  unfold pcells at hown' ⊢
  rw [List.flatMap_append]
  simpa using hown'
/-- The places of a kind on a key: of one transaction the first j operations; of the first k transactions. -/
def isPl (key : ByteArray) (kind : Int) (o : TO) : Bool := eqS o.key key && decide (o.kind = kind)
def plTx (key : ByteArray) (kind : Int) (t : TX) : Nat → List (TX × Nat)
  | 0 => []
  | j + 1 => plTx key kind t j ++ (match t.ops[j]? with | some o => if isPl key kind o = true then [(t, j)] else [] | none => [])
def plTo (key : ByteArray) (kind : Int) (L : List TX) : Nat → List (TX × Nat)
  | 0 => []
  | k + 1 => plTo key kind L k ++ (match L[k]? with | some t => plTx key kind t t.ops.length | none => [])
def plL (key : ByteArray) (kind : Int) (L : List TX) : List (TX × Nat) := plTo key kind L L.length
theorem plTx_next {key : ByteArray} {kind : Int} {t : TX} {j : Nat} {o : TO} (h : t.ops[j]? = some o) : plTx key kind t (j + 1) = plTx key kind t j ++ (if isPl key kind o = true then [(t, j)] else []) := by
  show plTx key kind t j ++ _ = _
  rw [h]
theorem plTo_next {key : ByteArray} {kind : Int} {L : List TX} {k : Nat} {t : TX} (h : L[k]? = some t) : plTo key kind L (k + 1) = plTo key kind L k ++ plTx key kind t t.ops.length := by
  show plTo key kind L k ++ _ = _
  rw [h]
theorem plTx_len (key : ByteArray) (kind : Int) (t : TX) : ∀ j, (plTx key kind t j).length ≤ j
  | 0 => Nat.le_refl _
  | j + 1 => by
    have ih := plTx_len key kind t j
    show (plTx key kind t j ++ _).length ≤ _
    rw [List.length_append]
    split
    · split
      · simp only [List.length_singleton]; omega
      · simp only [List.length_nil]; omega
    · simp only [List.length_nil]; omega
theorem plTo_len (key : ByteArray) (kind : Int) (L : List TX) (h : ∀ t ∈ L, t.ops.length ≤ 8) : ∀ k, (plTo key kind L k).length ≤ k * 8
  | 0 => Nat.le_refl _
  | k + 1 => by
    have ih := plTo_len key kind L h k
    show (plTo key kind L k ++ _).length ≤ _
    rw [List.length_append]
    split
    · next t ht =>
      have h1 := plTx_len key kind t t.ops.length
      have h2 := h t (List.mem_of_getElem? ht)
      omega
    · simp only [List.length_nil]; omega
/-- What the rounds of places leave. -/
structure PlS (w : World) (L : List (TX × Nat)) (R : List PR) (s : Value) (wr : World) : Prop where
  row : PLO wr w.heap.size s R
  tx : R.map (·.1) = L
  ops : PLT w R
  gr : Gr w wr
theorem PlS.next {w : World} {L : List (TX × Nat)} {R : List PR} {s : Value} {wr w' : World} (h : PlS w L R s wr) (g : Gr wr w') : PlS w L R s w' := ⟨h.row.gr g, h.tx, h.ops, h.gr.trans g⟩
theorem opCellsB (w : World) (o : TO) : ∃ W, W = w.alloc (.cells (opv o) 92) ∧ Gr w W ∧ W.cell? ⟨w.heap.size, 0, none⟩ = some (.int .i64 o.kind) ∧ W.cell? ⟨w.heap.size, 1, none⟩ = some (.string o.key) := by
  refine ⟨_, rfl, (Gr.refl w).alloc _, ?_, ?_⟩ <;> (rw [cell_of_block (heap_alloc w (opv o) 92)]; rfl)
set_option maxRecDepth 100000 in
set_option maxHeartbeats 8000000 in
theorem placesR_any (v : Value) (L : List TX) (key : ByteArray) (kind : Int) (w : World) (h : XV w v L) (hop : ∀ t ∈ L, t.ops.length ≤ 8) (hL : L.length ≤ 65536) :
    Calls Tryz.prog 55 #[v, .string key, .int .i64 kind] w fun e w' => ∃ s R, e = .returned s ∧ PLO w' w.heap.size s R ∧ R.map (·.1) = plL key kind L ∧ PLT w R ∧ Gr w w' := by
  obtain ⟨A, c, hvf, hnc, ⟨hcm, -⟩, hat⟩ := h
  subst hvf
  have HAT : Hid (∀ j (hj : j < L.length), ∃ b off, A = some ⟨b, off, none⟩ ∧ XCell w b (off + j * 12) L[j]) := Lib.hid hat
  have HOP := Lib.hid hop
  have HPL := Lib.hid (plTo_len key kind L hop)
  obtain ⟨n, hn⟩ : ∃ n, n = L.length := ⟨_, rfl⟩
  have HN := Lib.hid hn
  rw [← hn] at hL ⊢
  clear hat hop hn hcm hnc
  go_enter Tryz.func55, Tryz.ntmps55
  go_wp2_with fail
  go_loopw [7, 8] (fun s i wr => ∃ k : Nat, k ≤ n ∧ i = .int .i64 k ∧ Hid (∃ R, PlS w (plTo key kind L k) R s wr)) (fun _ i _ => n - (intOf i).toNat)
  case atStart => exact ⟨0, Nat.zero_le _, rfl, Lib.hid ⟨[], PLO.nil _ _, rfl, fun _ h => (by cases h), Gr.refl _⟩⟩
  case round =>
    obtain ⟨k, hk, rfl, hst⟩ := hrel
    rename World => wk
    by_cases hkn : k < n
    case neg =>
      obtain rfl : k = n := by omega
      have HE : Hid (∃ R, PlS w (plL key kind L) R _ wk) := Lib.hid (by unfold plL; rw [← HN.out]; exact hst.out)
      obtain ⟨R, hR⟩ := HE.out
      obtain ⟨As, cs, hsv, -, -⟩ := own_form hR.row
      subst hsv
      have HR := Lib.hid hR
      obtain ⟨m, hm⟩ : ∃ m, m = R.length := ⟨_, rfl⟩
      rw [← hm] at HR ⊢
      clear hst HE hR hm
      go_wp2_with fail
      go_ret
      exact ⟨_, R, rfl, HR.out.row, HR.out.tx, HR.out.ops, HR.out.gr⟩
    case pos =>
    have hk0 : (0 : Int) ≤ (k : Int) := Int.natCast_nonneg _
    have hkn1 : (k : Int) < (n : Int) := by omega
    have hkl : k < L.length := by rw [← HN.out]; exact hkn
    obtain ⟨R0, hR0⟩ := hst.out
    have HS0 := Lib.hid hR0
    obtain ⟨b, off, hA, hxc⟩ := HAT.out k hkl
    subst hA
    obtain ⟨t, ht⟩ : ∃ t, t = L[k] := ⟨_, rfl⟩
    rw [← ht] at hxc
    have HTK : Hid (L[k]? = some t) := Lib.hid (by rw [List.getElem?_eq_getElem hkl, ht])
    obtain ⟨vx, hvx, hfx⟩ := hxc
    have HFX := Lib.hid hfx
    obtain ⟨Av, cv, hvf⟩ := tov_form hvx
    subst hvf
    have hop8 := HOP.out t (by rw [ht]; exact List.getElem_mem hkl)
    obtain ⟨p, hp⟩ : ∃ p, p = t.ops.length := ⟨_, rfl⟩
    have HP := Lib.hid hp
    have HVX := Lib.hid hvx
    rw [← hp] at HFX HVX hop8
    clear hst hR0 ht hvx hfx hp
    go_wp2_with fail
    go_loopw [7, 9] (fun s jj wr => ∃ j : Nat, j ≤ p ∧ jj = .int .i64 j ∧ Hid (∃ R, PlS w (plTo key kind L k ++ plTx key kind t j) R s wr)) (fun _ jj _ => p - (intOf jj).toNat)
    case atStart => exact ⟨0, Nat.zero_le _, rfl, Lib.hid ⟨R0, by rw [show plTx key kind t 0 = [] from rfl, List.append_nil]; exact HS0.out⟩⟩
    case round =>
      obtain ⟨j, hj, rfl, hst⟩ := hrel
      rename World => wj
      obtain ⟨R, hR⟩ := hst.out
      obtain ⟨As, cs, hsv, -, -⟩ := own_form hR.row
      subst hsv
      have HS := Lib.hid hR
      obtain ⟨m, hm⟩ : ∃ m, m = R.length := ⟨_, rfl⟩
      have HM := Lib.hid hm
      rw [← hm] at HS ⊢
      obtain ⟨x0, x1, x2, x3, x4, x5, x6, x7, x8, x9, x10, x11⟩ := HFX.out.gr HS.out.gr
      clear hst hR hm
      by_cases hjp : j < p
      case neg =>
        obtain rfl : j = p := by omega
        have HE : Hid (∃ R, PlS w (plTo key kind L (k + 1)) R (.slice As m cs) wj) := Lib.hid ⟨R, by rw [plTo_next HTK.out, ← HP.out]; exact HS.out⟩
        go_wp2_with fail
        go_roundw
        case measure => simp [intOf]; omega
        case rel => exact ⟨k + 1, by omega, by go_num, HE⟩
      case pos =>
      have hj0 : (0 : Int) ≤ (j : Int) := Int.natCast_nonneg _
      have hjp1 : (j : Int) < (p : Int) := by omega
      have hjO : j < t.ops.length := by rw [← HP.out]; exact hjp
      obtain ⟨Ay, cy, hyv, -, -, hyat⟩ := HVX.out
      injection hyv with e1 e2 e3
      subst e1 e3
      obtain ⟨ob, oo, hA, hoc⟩ := hyat j hjO
      subst hA
      obtain ⟨o, ho⟩ : ∃ o, o = t.ops[j] := ⟨_, rfl⟩
      rw [← ho] at hoc
      have HNX := Lib.hid (plTx_next (key := key) (kind := kind) (show t.ops[j]? = some o by rw [List.getElem?_eq_getElem hjO, ho]))
      obtain ⟨o0, o1, o2, o3⟩ := hoc.gr HS.out.gr
      obtain ⟨W5, hW5, g5, y0, y1⟩ := opCellsB wj o
      obtain ⟨od, hod⟩ : ∃ x, x = o.kind := ⟨_, rfl⟩
      obtain ⟨oky, hoky⟩ : ∃ x, x = o.key := ⟨_, rfl⟩
      obtain ⟨oe, hoe⟩ : ∃ x, x = o.elem := ⟨_, rfl⟩
      obtain ⟨on', hon⟩ : ∃ x, x = o.n := ⟨_, rfl⟩
      unfold opv at hW5
      rw [← hod, ← hoky, ← hoe, ← hon] at hW5
      rw [← hod] at o0 y0
      rw [← hoky] at o1 y1
      rw [← hoe] at o2
      rw [← hon] at o3
      have HIP : Hid (isPl key kind o = (eqS oky key && decide (od = kind))) := Lib.hid (by rw [hod, hoky]; rfl)
      have HS5 := Lib.hid (HS.out.next g5)
      have hm120 : (m + 1) * 120 ≤ 140737488355328 := by
        have h1 := HM.out
        have h2 : R.length = (plTo key kind L k ++ plTx key kind t j).length := by rw [← HS.out.tx, List.length_map]
        rw [List.length_append] at h2
        have h3 := HPL.out k
        have h4 := plTx_len key kind t j
        omega
      clear e2 hyat ho hoc hod hoky hoe hon g5
      go_upto_region 9 with (fail)
      rw [← hW5]
      clear hW5 o0 o1 o2 o3 x0 x1 x2 x3 x4 x5 x6 x7 x8 x9 x10 x11
      rcases hky : eqS oky key with _ | _
      · have p1 : (oky.toList == key.toList) = false := hky
        have HE : Hid (∃ R, PlS w (plTo key kind L k ++ plTx key kind t (j + 1)) R (.slice As m cs) W5) := Lib.hid ⟨R, by rw [HNX.out, HIP.out, hky]; simpa using HS5.out⟩
        clear hky
        go_wp2_with fail
        go_roundw
        case measure => simp [intOf]; omega
        case rel => exact ⟨j + 1, by omega, by go_num, HE⟩
      · have p1 : (oky.toList == key.toList) = true := hky
        by_cases hkd : od = kind
        case neg =>
          have p2 : decide (od = kind) = false := decide_eq_false hkd
          have p3 : (od == kind) = false := beq_eq_false_iff_ne.2 hkd
          have HE : Hid (∃ R, PlS w (plTo key kind L k ++ plTx key kind t (j + 1)) R (.slice As m cs) W5) := Lib.hid ⟨R, by rw [HNX.out, HIP.out, hky, p2]; simpa using HS5.out⟩
          clear hky
          go_wp2_with fail
          go_roundw
          case measure => simp [intOf]; omega
          case rel => exact ⟨j + 1, by omega, by go_num, HE⟩
        case pos =>
          have p3 : (od == kind) = true := beq_iff_eq.2 hkd
          have HX : Hid (plTx key kind t (j + 1) = plTx key kind t j ++ [(t, j)]) := Lib.hid (by rw [HNX.out, HIP.out, hky, decide_eq_true hkd]; rfl)
          obtain ⟨x0, x1, x2, x3, x4, x5, x6, x7, x8, x9, x10, x11⟩ := HFX.out.gr HS5.out.gr
          obtain ⟨W6, hW6, g6, hb6, -⟩ := pbox W5 (t, j) (.slice (some ⟨ob, oo, none⟩) p cv)
          have HB6 := Lib.hid hb6
          have HS6 := Lib.hid (HS5.out.next g6)
          have HVT : Hid (TOV w (.slice (some ⟨ob, oo, none⟩) p cv) t.ops) := Lib.hid HVX.out
          obtain ⟨b6, hb6e⟩ : ∃ b, b = W5.heap.size := ⟨_, rfl⟩
          rw [← hb6e] at HB6
          clear hky hb6 g6
          go_wp2_with (at_builtin; rw [← hb6e, ← hW6]; refine wpList_push_pl (w0 := w) rfl (.tmp 45) (.tmp 52) rfl (.slice As m cs) b6 R ((t, j), .slice (some ⟨ob, oo, none⟩) p cv) m HM.out rfl HS6.out.row rfl HB6.out HVT.out hm120 HS6.out.gr ?_)
          intro A' c' w7 hown g7
          have HE : Hid (∃ R, PlS w (plTo key kind L k ++ plTx key kind t (j + 1)) R (.slice A' (m + 1) c') w7) := Lib.hid ⟨_, hown, by rw [List.map_append, HS6.out.tx, HX.out, List.append_assoc]; rfl, fun r hr => by
            rcases List.mem_append.1 hr with hr | hr
            · exact HS6.out.ops r hr
            · rw [List.mem_singleton.1 hr]; exact HVT.out, g7⟩
          clear hown g7
          go_wp2_with fail
          go_roundw
          case measure => simp [intOf]; omega
          case rel => exact ⟨j + 1, by omega, by go_num, HE⟩
theorem places_any (v : Value) (L : List TX) (key : ByteArray) (kind : Int) (w : World) (h : XV w v L) (hop : ∀ t ∈ L, t.ops.length ≤ 8) (hL : L.length ≤ 65536) :
    Calls Tryz.prog 55 #[v, .string key, .int .i64 kind] w fun e w' => ∃ s, e = .returned s ∧ PLV w' s (plL key kind L) ∧ Gr w w' :=
  (placesR_any v L key kind w h hop hL).mono fun e w' ⟨s, R, he, h1, h2, h3, g⟩ => ⟨s, he, by rw [← h2]; exact h1.plv (h3.gr g), g⟩
end Go.Proofs.YtlihcjlonafohaaGreat
namespace Go.Proofs.YtlihcjlonafohaaGreat
open Go.RowKit Go.Joins
set_option linter.unusedSimpArgs false
set_option linter.unusedVariables false

/-- The places are places of operations. -/
def InP (L : List (TX × Nat)) : Prop := ∀ x ∈ L, x.2 < x.1.ops.length
def elP (x : TX × Nat) : ByteArray := (opAt x.1 x.2).elem
/-- Is there one of them, of the same element, that saw it? -/
def ansB (x : TX × Nat) (L : List (TX × Nat)) : Bool := L.any fun y => eqS (elP y) (elP x) && seenP x y
def covB (x : TX × Nat) (L : List (TX × Nat)) : Bool := L.any fun y => seenP x y
def firB (e : ByteArray) (A R : List (TX × Nat)) : Bool := R.all fun r => !(eqS (elP r) e && !ansB r A)
theorem any_upto {α : Type} {p : α → Bool} {L : List α} (h : ∀ j (hj : j < L.length), p L[j] = false) : L.any p = false := by
  rw [List.any_eq_false]
  intro x hx
  obtain ⟨j, hj, rfl⟩ := List.mem_iff_getElem.1 hx
  rw [h j hj]
  simp
set_option maxRecDepth 100000 in
set_option maxHeartbeats 8000000 in
theorem answered_any (x : TX × Nat) (vx v : Value) (L : List (TX × Nat)) (w : World) (hv : TOV w vx x.1.ops) (hx : x.2 < x.1.ops.length) (h : PLV w v L) (hL : InP L) :
    Calls Tryz.prog 57 #[.agg (pcs x.1 vx x.2), v] w fun e w' => e = .returned (.bool (ansB x L)) ∧ Gr w w' := by
  obtain ⟨W, hW, hg, -, hfx⟩ := pbox w x vx
  have HFX := Lib.hid hfx
  have HG := Lib.hid hg
  have HOX := Lib.hid (fun w1 (g : Gr W w1) => pop_any x vx w1 ((hv.gr hg).gr g) hx)
  obtain ⟨A, c, hvf, hnc, ⟨hcm, -⟩, hat⟩ := h
  subst hvf
  have HAT : Hid (∀ j (hj : j < L.length), ∃ b off, A = some ⟨b, off, none⟩ ∧ PCl w b (off + j * 13) L[j]) := Lib.hid hat
  have HIN := Lib.hid hL
  obtain ⟨xk, hxk⟩ : ∃ a, a = (opAt x.1 x.2).kind := ⟨_, rfl⟩
  obtain ⟨xy, hxy⟩ : ∃ a, a = (opAt x.1 x.2).key := ⟨_, rfl⟩
  obtain ⟨xe, hxe⟩ : ∃ a, a = (opAt x.1 x.2).elem := ⟨_, rfl⟩
  obtain ⟨xn, hxn⟩ : ∃ a, a = (opAt x.1 x.2).n := ⟨_, rfl⟩
  unfold opv at HOX
  rw [← hxk, ← hxy, ← hxe, ← hxn] at HOX
  have HXE : Hid (elP x = xe) := Lib.hid hxe.symm
  obtain ⟨n, hn⟩ : ∃ n, n = L.length := ⟨_, rfl⟩
  have HN := Lib.hid hn
  have hnb : n ≤ 9223372036854775807 := by unfold maxLen at hcm; omega
  rw [← hn]
  clear hat hv hx hL hn hcm hnc hg hfx hxk hxy hxe hxn
  go_enter Tryz.func57, Tryz.ntmps57
  go_upto_region 1 with (fail)
  rw [← hW]
  clear hW
  go_wp2_with fail
  go_loopw [5] (fun i wr => ∃ j : Nat, j ≤ n ∧ i = .int .i64 j ∧ Hid (Gr W wr ∧ ∀ k (hk : k < L.length), k < j → (eqS (elP L[k]) (elP x) && seenP x L[k]) = false)) (fun i _ => n - (intOf i).toNat)
  case atStart => exact ⟨0, Nat.zero_le _, rfl, Lib.hid ⟨Gr.refl _, fun _ _ h => absurd h (Nat.not_lt_zero _)⟩⟩
  case round =>
    obtain ⟨j, hj, rfl, hst⟩ := hrel
    rename World => wr
    by_cases hjn : j < n
    case neg =>
      obtain rfl : j = n := by omega
      have HE : Hid (ansB x L = false) := Lib.hid (any_upto fun k hk => hst.out.2 k hk (by rw [HN.out]; exact hk))
      have HGR := Lib.hid hst.out.1
      clear hst
      go_wp2_with fail
      go_ret
      exact ⟨by rw [HE.out]; rfl, HG.out.trans HGR.out⟩
    case pos =>
    have hj0 : (0 : Int) ≤ (j : Int) := Int.natCast_nonneg _
    have hjn1 : (j : Int) < (n : Int) := by omega
    have hjl : j < L.length := by rw [← HN.out]; exact hjn
    obtain ⟨b, off, hA, hpc⟩ := HAT.out j hjl
    subst hA
    obtain ⟨y, hy⟩ : ∃ y, y = L[j] := ⟨_, rfl⟩
    rw [← hy] at hpc
    obtain ⟨vy, hvy, hfy⟩ := hpc.gr HG.out
    have HFY := Lib.hid (hfy.gr hst.out.1)
    have hyi : y.2 < y.1.ops.length := by rw [hy]; exact HIN.out _ (List.getElem_mem hjl)
    have HOY := Lib.hid (fun w1 (g : Gr W w1) => pop_any y vy w1 (hvy.gr g) hyi)
    have HSE := Lib.hid (fun w1 => seen10_any x y vx vy w1)
    obtain ⟨Ay, cy, hvf⟩ := tov_form hvy
    subst hvf
    obtain ⟨yk, hyk⟩ : ∃ a, a = (opAt y.1 y.2).kind := ⟨_, rfl⟩
    obtain ⟨yy, hyy⟩ : ∃ a, a = (opAt y.1 y.2).key := ⟨_, rfl⟩
    obtain ⟨ye, hye⟩ : ∃ a, a = (opAt y.1 y.2).elem := ⟨_, rfl⟩
    obtain ⟨yn, hyn⟩ : ∃ a, a = (opAt y.1 y.2).n := ⟨_, rfl⟩
    unfold opv at HOY
    rw [← hyk, ← hyy, ← hye, ← hyn] at HOY
    have HYE : Hid (elP y = ye) := Lib.hid hye.symm
    have hfl1 := fun W => run_field_e yk yy ye yn W
    have hfl2 := fun W => run_field_e xk xy xe xn W
    have HY := Lib.hid hy
    have HALL := Lib.hid hst.out.2
    have HGR := Lib.hid hst.out.1
    clear hst hpc hvy hfy hyi hy hyk hyy hye hyn
    go_upto_region 4 with (fail)
    rcases hel : eqS ye xe with _ | _
    · have p1 : (ye.toList == xe.toList) = false := hel
      have HNX : Hid (∀ k (hk : k < L.length), k < j + 1 → (eqS (elP L[k]) (elP x) && seenP x L[k]) = false) := Lib.hid fun k hk hkj => by
        by_cases e : k = j
        · subst e; rw [← HY.out, HYE.out, HXE.out, hel]; rfl
        · exact HALL.out k hk (by omega)
      clear hel
      refine qRegion (fun w' => PFix w' w.heap.size 0 x vx ∧ PFix w' b (off + j * 13) y (.slice Ay y.1.ops.length cy) ∧ Gr W w') (by kernel_rfl) (by kernel_rfl) ⟨(HFX.out.gr HGR.out).gr (Gr.refl _).drew, HFY.out.gr (Gr.refl _).drew, HGR.out.drew⟩ ?_
      iterate 4
        refine qTake (by kernel_rfl) ?_
        apply Exists.intro
        refine ⟨fun wq hq => ?_, ?_⟩
        · go_light
          obtain ⟨⟨⟨d0, d1, d2, d3, d4, d5, d6, d7, d8, d9, d10, d11⟩, d12⟩, ⟨⟨f0, f1, f2, f3, f4, f5, f6, f7, f8, f9, f10, f11⟩, f12⟩, -⟩ := hq
          go_simp
          try with_reducible rfl
          done
        try simp only [Act.put, List.setIfInBounds_toArray, List.set_cons_zero, List.set_cons_succ]
      refine qCall (by kernel_rfl) ?_
      apply Exists.intro
      refine ⟨?_, ?_⟩
      · apply Exists.intro
        apply Exists.intro
        refine ⟨fun wq => ?_, fun wq hq => ?_⟩
        · go_light
          go_simp
          exact ⟨rfl, rfl⟩
        · exact (HOY.out wq hq.2.2).mono fun e w'' ⟨he, hg⟩ => ⟨he, hq.1.gr hg, hq.2.1.gr hg, hq.2.2.trans hg⟩
      try simp only [Act.put, List.setIfInBounds_toArray, List.set_cons_zero, List.set_cons_succ]
      iterate 2
        refine qTake (by kernel_rfl) ?_
        apply Exists.intro
        refine ⟨fun wq hq => ?_, ?_⟩
        · go_light
          obtain ⟨⟨⟨d0, d1, d2, d3, d4, d5, d6, d7, d8, d9, d10, d11⟩, d12⟩, ⟨⟨f0, f1, f2, f3, f4, f5, f6, f7, f8, f9, f10, f11⟩, f12⟩, -⟩ := hq
          go_simp
          try with_reducible rfl
          done
        try simp only [Act.put, List.setIfInBounds_toArray, List.set_cons_zero, List.set_cons_succ]
      refine qCall (by kernel_rfl) ?_
      apply Exists.intro
      refine ⟨?_, ?_⟩
      · apply Exists.intro
        apply Exists.intro
        refine ⟨fun wq => ?_, fun wq hq => ?_⟩
        · go_light
          go_simp
          exact ⟨rfl, rfl⟩
        · exact (HOX.out wq hq.2.2).mono fun e w'' ⟨he, hg⟩ => ⟨he, hq.1.gr hg, hq.2.1.gr hg, hq.2.2.trans hg⟩
      try simp only [Act.put, List.setIfInBounds_toArray, List.set_cons_zero, List.set_cons_succ]
      iterate 3
        refine qTake (by kernel_rfl) ?_
        apply Exists.intro
        refine ⟨fun wq hq => ?_, ?_⟩
        · go_light
          obtain ⟨⟨⟨d0, d1, d2, d3, d4, d5, d6, d7, d8, d9, d10, d11⟩, d12⟩, ⟨⟨f0, f1, f2, f3, f4, f5, f6, f7, f8, f9, f10, f11⟩, f12⟩, -⟩ := hq
          go_simp
          try with_reducible rfl
          done
        try simp only [Act.put, List.setIfInBounds_toArray, List.set_cons_zero, List.set_cons_succ]
      iterate 6
        refine qSkip (by kernel_rfl) ?_
        try simp only [Act.put, List.setIfInBounds_toArray, List.set_cons_zero, List.set_cons_succ]
      iterate 1
        refine qTake (by kernel_rfl) ?_
        apply Exists.intro
        refine ⟨fun wq hq => ?_, ?_⟩
        · go_light
          obtain ⟨⟨⟨d0, d1, d2, d3, d4, d5, d6, d7, d8, d9, d10, d11⟩, d12⟩, ⟨⟨f0, f1, f2, f3, f4, f5, f6, f7, f8, f9, f10, f11⟩, f12⟩, -⟩ := hq
          go_simp
          try with_reducible rfl
          done
        try simp only [Act.put, List.setIfInBounds_toArray, List.set_cons_zero, List.set_cons_succ]
      refine qNil ?_
      intro w4 hC
      have HG4 := Lib.hid hC.2.2
      clear hC
      go_wp2_with fail
      go_roundw
      case measure => simp [intOf]; omega
      case rel => exact ⟨j + 1, by omega, by go_num, Lib.hid ⟨HG4.out, HNX.out⟩⟩
    · have p1 : (ye.toList == xe.toList) = true := hel
      obtain ⟨r, hr⟩ : ∃ r, r = seenP x y := ⟨_, rfl⟩
      rw [← hr] at HSE
      cases r with
      | false =>
        have HNX : Hid (∀ k (hk : k < L.length), k < j + 1 → (eqS (elP L[k]) (elP x) && seenP x L[k]) = false) := Lib.hid fun k hk hkj => by
          by_cases e : k = j
          · subst e; rw [← HY.out, ← hr, Bool.and_false]
          · exact HALL.out k hk (by omega)
        clear hel hr
        refine qRegion (fun w' => PFix w' w.heap.size 0 x vx ∧ PFix w' b (off + j * 13) y (.slice Ay y.1.ops.length cy) ∧ Gr W w') (by kernel_rfl) (by kernel_rfl) ⟨(HFX.out.gr HGR.out).gr (Gr.refl _).drew, HFY.out.gr (Gr.refl _).drew, HGR.out.drew⟩ ?_
        iterate 4
          refine qTake (by kernel_rfl) ?_
          apply Exists.intro
          refine ⟨fun wq hq => ?_, ?_⟩
          · go_light
            obtain ⟨⟨⟨d0, d1, d2, d3, d4, d5, d6, d7, d8, d9, d10, d11⟩, d12⟩, ⟨⟨f0, f1, f2, f3, f4, f5, f6, f7, f8, f9, f10, f11⟩, f12⟩, -⟩ := hq
            go_simp
            try with_reducible rfl
            done
          try simp only [Act.put, List.setIfInBounds_toArray, List.set_cons_zero, List.set_cons_succ]
        refine qCall (by kernel_rfl) ?_
        apply Exists.intro
        refine ⟨?_, ?_⟩
        · apply Exists.intro
          apply Exists.intro
          refine ⟨fun wq => ?_, fun wq hq => ?_⟩
          · go_light
            go_simp
            exact ⟨rfl, rfl⟩
          · exact (HOY.out wq hq.2.2).mono fun e w'' ⟨he, hg⟩ => ⟨he, hq.1.gr hg, hq.2.1.gr hg, hq.2.2.trans hg⟩
        try simp only [Act.put, List.setIfInBounds_toArray, List.set_cons_zero, List.set_cons_succ]
        iterate 2
          refine qTake (by kernel_rfl) ?_
          apply Exists.intro
          refine ⟨fun wq hq => ?_, ?_⟩
          · go_light
            obtain ⟨⟨⟨d0, d1, d2, d3, d4, d5, d6, d7, d8, d9, d10, d11⟩, d12⟩, ⟨⟨f0, f1, f2, f3, f4, f5, f6, f7, f8, f9, f10, f11⟩, f12⟩, -⟩ := hq
            go_simp
            try with_reducible rfl
            done
          try simp only [Act.put, List.setIfInBounds_toArray, List.set_cons_zero, List.set_cons_succ]
        refine qCall (by kernel_rfl) ?_
        apply Exists.intro
        refine ⟨?_, ?_⟩
        · apply Exists.intro
          apply Exists.intro
          refine ⟨fun wq => ?_, fun wq hq => ?_⟩
          · go_light
            go_simp
            exact ⟨rfl, rfl⟩
          · exact (HOX.out wq hq.2.2).mono fun e w'' ⟨he, hg⟩ => ⟨he, hq.1.gr hg, hq.2.1.gr hg, hq.2.2.trans hg⟩
        try simp only [Act.put, List.setIfInBounds_toArray, List.set_cons_zero, List.set_cons_succ]
        iterate 8
          refine qTake (by kernel_rfl) ?_
          apply Exists.intro
          refine ⟨fun wq hq => ?_, ?_⟩
          · go_light
            obtain ⟨⟨⟨d0, d1, d2, d3, d4, d5, d6, d7, d8, d9, d10, d11⟩, d12⟩, ⟨⟨f0, f1, f2, f3, f4, f5, f6, f7, f8, f9, f10, f11⟩, f12⟩, -⟩ := hq
            go_simp
            try with_reducible rfl
            done
          try simp only [Act.put, List.setIfInBounds_toArray, List.set_cons_zero, List.set_cons_succ]
        refine qCall (by kernel_rfl) ?_
        apply Exists.intro
        refine ⟨?_, ?_⟩
        · apply Exists.intro
          apply Exists.intro
          refine ⟨fun wq => ?_, fun wq hq => ?_⟩
          · go_light
            go_simp
            exact ⟨rfl, rfl⟩
          · exact (HSE.out wq).mono fun e w'' ⟨he, hg⟩ => ⟨he, hq.1.gr hg, hq.2.1.gr hg, hq.2.2.trans hg⟩
        try simp only [Act.put, List.setIfInBounds_toArray, List.set_cons_zero, List.set_cons_succ]
        iterate 1
          refine qTake (by kernel_rfl) ?_
          apply Exists.intro
          refine ⟨fun wq hq => ?_, ?_⟩
          · go_light
            obtain ⟨⟨⟨d0, d1, d2, d3, d4, d5, d6, d7, d8, d9, d10, d11⟩, d12⟩, ⟨⟨f0, f1, f2, f3, f4, f5, f6, f7, f8, f9, f10, f11⟩, f12⟩, -⟩ := hq
            go_simp
            try with_reducible rfl
            done
          try simp only [Act.put, List.setIfInBounds_toArray, List.set_cons_zero, List.set_cons_succ]
        refine qNil ?_
        intro w4 hC
        have HG4 := Lib.hid hC.2.2
        clear hC
        go_wp2_with fail
        go_roundw
        case measure => simp [intOf]; omega
        case rel => exact ⟨j + 1, by omega, by go_num, Lib.hid ⟨HG4.out, HNX.out⟩⟩
      | true =>
        have HE : Hid (ansB x L = true) := Lib.hid (List.any_eq_true.2 ⟨y, by rw [HY.out]; exact List.getElem_mem hjl, by rw [HYE.out, HXE.out, hel, ← hr]; rfl⟩)
        clear hel hr
        refine qRegion (fun w' => PFix w' w.heap.size 0 x vx ∧ PFix w' b (off + j * 13) y (.slice Ay y.1.ops.length cy) ∧ Gr W w') (by kernel_rfl) (by kernel_rfl) ⟨(HFX.out.gr HGR.out).gr (Gr.refl _).drew, HFY.out.gr (Gr.refl _).drew, HGR.out.drew⟩ ?_
        iterate 4
          refine qTake (by kernel_rfl) ?_
          apply Exists.intro
          refine ⟨fun wq hq => ?_, ?_⟩
          · go_light
            obtain ⟨⟨⟨d0, d1, d2, d3, d4, d5, d6, d7, d8, d9, d10, d11⟩, d12⟩, ⟨⟨f0, f1, f2, f3, f4, f5, f6, f7, f8, f9, f10, f11⟩, f12⟩, -⟩ := hq
            go_simp
            try with_reducible rfl
            done
          try simp only [Act.put, List.setIfInBounds_toArray, List.set_cons_zero, List.set_cons_succ]
        refine qCall (by kernel_rfl) ?_
        apply Exists.intro
        refine ⟨?_, ?_⟩
        · apply Exists.intro
          apply Exists.intro
          refine ⟨fun wq => ?_, fun wq hq => ?_⟩
          · go_light
            go_simp
            exact ⟨rfl, rfl⟩
          · exact (HOY.out wq hq.2.2).mono fun e w'' ⟨he, hg⟩ => ⟨he, hq.1.gr hg, hq.2.1.gr hg, hq.2.2.trans hg⟩
        try simp only [Act.put, List.setIfInBounds_toArray, List.set_cons_zero, List.set_cons_succ]
        iterate 2
          refine qTake (by kernel_rfl) ?_
          apply Exists.intro
          refine ⟨fun wq hq => ?_, ?_⟩
          · go_light
            obtain ⟨⟨⟨d0, d1, d2, d3, d4, d5, d6, d7, d8, d9, d10, d11⟩, d12⟩, ⟨⟨f0, f1, f2, f3, f4, f5, f6, f7, f8, f9, f10, f11⟩, f12⟩, -⟩ := hq
            go_simp
            try with_reducible rfl
            done
          try simp only [Act.put, List.setIfInBounds_toArray, List.set_cons_zero, List.set_cons_succ]
        refine qCall (by kernel_rfl) ?_
        apply Exists.intro
        refine ⟨?_, ?_⟩
        · apply Exists.intro
          apply Exists.intro
          refine ⟨fun wq => ?_, fun wq hq => ?_⟩
          · go_light
            go_simp
            exact ⟨rfl, rfl⟩
          · exact (HOX.out wq hq.2.2).mono fun e w'' ⟨he, hg⟩ => ⟨he, hq.1.gr hg, hq.2.1.gr hg, hq.2.2.trans hg⟩
        try simp only [Act.put, List.setIfInBounds_toArray, List.set_cons_zero, List.set_cons_succ]
        iterate 8
          refine qTake (by kernel_rfl) ?_
          apply Exists.intro
          refine ⟨fun wq hq => ?_, ?_⟩
          · go_light
            obtain ⟨⟨⟨d0, d1, d2, d3, d4, d5, d6, d7, d8, d9, d10, d11⟩, d12⟩, ⟨⟨f0, f1, f2, f3, f4, f5, f6, f7, f8, f9, f10, f11⟩, f12⟩, -⟩ := hq
            go_simp
            try with_reducible rfl
            done
          try simp only [Act.put, List.setIfInBounds_toArray, List.set_cons_zero, List.set_cons_succ]
        refine qCall (by kernel_rfl) ?_
        apply Exists.intro
        refine ⟨?_, ?_⟩
        · apply Exists.intro
          apply Exists.intro
          refine ⟨fun wq => ?_, fun wq hq => ?_⟩
          · go_light
            go_simp
            exact ⟨rfl, rfl⟩
          · exact (HSE.out wq).mono fun e w'' ⟨he, hg⟩ => ⟨he, hq.1.gr hg, hq.2.1.gr hg, hq.2.2.trans hg⟩
        try simp only [Act.put, List.setIfInBounds_toArray, List.set_cons_zero, List.set_cons_succ]
        iterate 1
          refine qTake (by kernel_rfl) ?_
          apply Exists.intro
          refine ⟨fun wq hq => ?_, ?_⟩
          · go_light
            obtain ⟨⟨⟨d0, d1, d2, d3, d4, d5, d6, d7, d8, d9, d10, d11⟩, d12⟩, ⟨⟨f0, f1, f2, f3, f4, f5, f6, f7, f8, f9, f10, f11⟩, f12⟩, -⟩ := hq
            go_simp
            try with_reducible rfl
            done
          try simp only [Act.put, List.setIfInBounds_toArray, List.set_cons_zero, List.set_cons_succ]
        refine qNil ?_
        intro w4 hC
        have HG4 := Lib.hid hC.2.2
        clear hC
        go_wp2_with fail
        go_ret
        exact ⟨by rw [HE.out]; rfl, HG.out.trans HG4.out⟩
end Go.Proofs.YtlihcjlonafohaaGreat
