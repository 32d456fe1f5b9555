/- The library's Clone of a string, by the shelf's contract (proved once, over any program), at this program's numbers. Walk: strings.Clone answers the string. Deeds as they are read: a slice of them, a row that the call owns; the deeds on a key, told by recursion; walks: a deed's operation. Walks: the program's Closed. Walks: the document's Size, Stamp, Check, Same. Walks: the document's Stamp. -/
import Derived.Test.YtlihcjlonafohaaGreatChecked
import Derived.Shelf.Strconv.Clone
import Derived.WalkKit
import Derived.ProofKit
import Derived.Test.YtlihcjlonafohaaGreatZf01
import Derived.Lib.Hide
import Derived.Lib.Strings
import Derived.Test.YtlihcjlonafohaaGreatZf07
import Derived.Test.YtlihcjlonafohaaGreatZf06
import Derived.Test.YtlihcjlonafohaaGreatZf05
namespace Go.Proofs.YtlihcjlonafohaaGreat
open Go.Shelf Go.RowKit
def lays316_ren : Go.Shelf.Ren := ⟨fun | 316 => 115 | n => n, fun | 0 => 0 | 3 => 3 | 4 => 4 | 5 => 5 | 9 => 9 | 37 => 28 | 127 => 209 | n => n, fun | n => n⟩
theorem lays316 : Go.Proofs.LaysM.n316 Tryz.prog lays316_ren := {
  mixed := by kernel_rfl
  f316 := Tryz.func115.trans (congrArg some (by kernel_rfl))
  t0 := Tryz.underlying0
  a0 := Tryz.isAgg0
  z0 := Tryz.sizeOf0
  v0 := Tryz.zeroValue0
  t3 := Tryz.underlying3
  a3 := Tryz.isAgg3
  z3 := Tryz.sizeOf3
  v3 := Tryz.zeroValue3
  t4 := Tryz.underlying4
  a4 := Tryz.isAgg4
  z4 := Tryz.sizeOf4
  v4 := Tryz.zeroValue4
  t9 := Tryz.underlying9
  a9 := Tryz.isAgg9
  z9 := Tryz.sizeOf9
  v9 := Tryz.zeroValue9
  t37 := Tryz.underlying28
  a37 := Tryz.isAgg28
  z37 := Tryz.sizeOf28
  v37 := Tryz.zeroValue28
  t127 := Tryz.underlying209
  a127 := Tryz.isAgg209
  z127 := Tryz.sizeOf209
  v127 := Tryz.zeroValue209
  t5 := Tryz.underlying5
  a5 := Tryz.isAgg5
  z5 := Tryz.sizeOf5
  v5 := Tryz.zeroValue5
  i0 := by kernel_rfl
  i3 := by kernel_rfl
  i4 := by kernel_rfl
  i5 := by kernel_rfl
  i9 := by kernel_rfl
  i37 := by kernel_rfl
  i127 := by kernel_rfl }
theorem clone_lib (s : ByteArray) (w : World) (hlim : s.size ≤ 281474976710656) :
    Calls Tryz.prog 115 #[.string s] w fun e w' => e = .returned (.string s) ∧ Below w.heap.size w w' := Any.stringslite_Clone lays316 s w hlim
end Go.Proofs.YtlihcjlonafohaaGreat
namespace Go.Proofs.YtlihcjlonafohaaGreat
open Go.RowKit

theorem clone_any (s : ByteArray) (hs : s.size ≤ 281474976710656) (w : World) :
    Calls Tryz.prog 70 #[.string s] w fun e w' => e = .returned (.string s) ∧ Gr w w' := by
  have H := Lib.hid (fun w => clone_lib s w hs)
  go_enter Tryz.func70, Tryz.ntmps70
  go_wp2_with fail
  refine (H.out _).mono ?_
  rintro e w1 ⟨rfl, g⟩
  go_wp2
  go_ret
  exact ⟨rfl, g⟩

end Go.Proofs.YtlihcjlonafohaaGreat
namespace Go.Proofs.YtlihcjlonafohaaGreat
open Go.RowKit Go.Joins

/-- A deed: the place of its transaction in memory, the transaction, the operation's place. -/
structure DD where
  b : Nat
  o : Nat
  t : TX
  i : Nat
def dcell (d : DD) : List Value := [.pointer (some ⟨d.b, d.o, none⟩), .int .i64 (d.i : Int)]
theorem dcell_len (d : DD) : (dcell d).length = 2 := rfl
def dcells (L : List DD) : List Value := L.flatMap dcell
theorem dcells_len (L : List DD) : (dcells L).length = L.length * 2 := rows_len dcell 2 dcell_len L
/-- A deed lies at this place. -/
def DCell (w : World) (b off : Nat) (d : DD) : Prop := w.cell? ⟨b, off, none⟩ = some (.pointer (some ⟨d.b, d.o, none⟩)) ∧ w.cell? ⟨b, off + 1, none⟩ = some (.int .i64 (d.i : Int))
/-- The slice value v reads as the deeds L. -/
def DV (w : World) (v : Value) (L : List DD) : Prop :=
  ∃ A c, v = .slice A L.length c ∧ L.length ≤ c ∧ (c ≤ maxLen ∧ (A = Option.none → c = 0)) ∧ ∀ j (hj : j < L.length), ∃ b off, A = some ⟨b, off, none⟩ ∧ DCell w b (off + j * 2) L[j]
theorem DCell.gr {w w' : World} {b off : Nat} {f : DD} (h : DCell w b off f) (g : Gr w w') : DCell w' b off f := ⟨g.cell h.1, g.cell h.2⟩
theorem DV.gr {w w' : World} {v : Value} {L : List DD} (h : DV w v L) (g : Gr w w') : DV w' v L := by
  obtain ⟨A, c, hv, h1, h2, h3⟩ := h
  refine ⟨A, c, hv, h1, h2, fun j hj => ?_⟩
  obtain ⟨b, off, ha, hc⟩ := h3 j hj
  exact ⟨b, off, ha, hc.gr g⟩
theorem DV.sl {w : World} {v : Value} {L : List DD} (h : DV w v L) : SL w 2 v L.length (dcells L) := by
  obtain ⟨A, c, hv, h1, h2, h3⟩ := h
  refine ⟨A, c, hv, h1, h2, dcells_len L, fun j u hj => ?_⟩
  obtain ⟨q, r, hq, hr, rfl, hu⟩ := rows_of dcell 2 dcell_len (by decide) L j u hj
  obtain ⟨b, off, ha, c0, c1⟩ := h3 q hq
  refine ⟨b, off, ha, ?_⟩
  rw [← Nat.add_assoc]
  match r, hr with
  | 0, _ => injection hu with hu; rw [← hu]; exact c0
  | 1, _ => injection hu with hu; rw [← hu]; exact c1
theorem DV.of_sl {w : World} {v : Value} {L : List DD} {n : Nat} (h : SL w 2 v n (dcells L)) : DV w v L := by
  obtain ⟨A, c, hv, h1, ⟨h2, h2'⟩, h3, h4⟩ := h
  have hn : L.length = n := by
    rw [dcells_len] at h3
    omega
  subst hn
  refine ⟨A, c, hv, h1, ⟨h2, h2'⟩, fun j hj => ?_⟩
  have at_ : ∀ r, r < 2 → (dcells L)[j * 2 + r]? = (dcell L[j])[r]? := fun r hr => rows_at dcell 2 dcell_len L j r hj hr
  obtain ⟨b, off, ha, c0⟩ := h4 (j * 2 + 0) _ (at_ 0 (by decide))
  obtain ⟨b', off', ha', c1⟩ := h4 (j * 2 + 1) _ (at_ 1 (by decide))
  rw [ha] at ha'
  injection ha' with ha'
  injection ha' with e1 e2
  subst e1 e2
  refine ⟨b, off, ha, c0, ?_⟩
  rw [Nat.add_assoc]
  exact c1
/-- What a deed points to lies there. -/
def DX (w : World) (d : DD) : Prop := XCell w d.b d.o d.t ∧ d.i < d.t.ops.length
theorem DX.gr {w w' : World} {d : DD} (h : DX w d) (g : Gr w w') : DX w' d := ⟨h.1.gr g, h.2⟩
def DXs (w : World) (L : List DD) : Prop := ∀ d ∈ L, DX w d
theorem DXs.gr {w w' : World} {L : List DD} (h : DXs w L) (g : Gr w w') : DXs w' L := fun d hd => (h d hd).gr g
/-- The deed's operation. -/
def DD.op (d : DD) : TO := d.t.ops.getD d.i ⟨0, ⟨#[]⟩, ⟨#[]⟩, 0⟩
theorem DX.op {w : World} {d : DD} (h : DX w d) : d.op = d.t.ops[d.i]'h.2 := by
  unfold DD.op
  rw [List.getD_eq_getElem?_getD, List.getElem?_eq_getElem h.2]
  rfl
/-- The operations of a transaction on a key, the first j places. -/
def dTx (key : ByteArray) (t : TX) : Nat → List (TX × Nat)
  | 0 => []
  | j + 1 => dTx key t j ++ (match t.ops[j]? with | some o => if eqS o.key key = true then [(t, j)] else [] | none => [])
theorem dTx_yes {key : ByteArray} {t : TX} {j : Nat} {o : TO} (h : t.ops[j]? = some o) (hk : eqS o.key key = true) : dTx key t (j + 1) = dTx key t j ++ [(t, j)] := by
  show dTx key t j ++ _ = _
  rw [h]
  simp only [hk, if_true]
theorem dTx_no {key : ByteArray} {t : TX} {j : Nat} {o : TO} (h : t.ops[j]? = some o) (hk : eqS o.key key = false) : dTx key t (j + 1) = dTx key t j := by
  show dTx key t j ++ _ = _
  rw [h]
  simp [hk]
abbrev opv (o : TO) : Array Value := #[.int .i64 o.kind, .string o.key, .string o.elem, .int .i64 o.n]

end Go.Proofs.YtlihcjlonafohaaGreat
namespace Go.Proofs.YtlihcjlonafohaaGreat
open Go.RowKit Go.Joins

/-- The transactions of the first k logs, as far as the cut goes, depend on nothing beyond it. -/
def closedTo (l : LG) (v : Nat → Nat) (k : Nat) : Prop := ∀ i d t, i < k → d < v i → (l i)[d]? = some t → leqB t.deps v = true
def closedIn (l : LG) (v : Nat → Nat) (i k : Nat) : Prop := ∀ d t, d < k → (l i)[d]? = some t → leqB t.deps v = true
theorem closedTo_next {l : LG} {v : Nat → Nat} {k : Nat} (h : closedTo l v k) (h2 : closedIn l v k (v k)) : closedTo l v (k + 1) := fun i d t hi hd ht => by
  by_cases e : i = k
  · subst e; exact h2 d t hd ht
  · exact h i d t (by omega) hd ht
theorem closedIn_next {l : LG} {v : Nat → Nat} {i d : Nat} {t : TX} (h : closedIn l v i d) (ht : (l i)[d]? = some t) (h2 : leqB t.deps v = true) : closedIn l v i (d + 1) := fun e u he hu => by
  by_cases q : e = d
  · subst q
    rw [ht] at hu
    injection hu with hu
    rw [← hu]; exact h2
  · exact h e u (by omega) hu
theorem closedB_no {l : LG} {v : Nat → Nat} (h : ¬ closedP l v) : closedB l v = false := by
  rw [Bool.eq_false_iff]
  exact fun e => h (closedB_iff.1 e)
theorem closedB_yes {l : LG} {v : Nat → Nat} (h : closedP l v) : closedB l v = true := closedB_iff.2 h
theorem LV.cap {w : World} {u : Nat → S3} {l : LG} (h : LV w u l) {i : Nat} (hi : i < 8) : (l i).length ≤ (u i).c ∧ (u i).c ≤ maxLen := by
  obtain ⟨A, c, hv, h1, ⟨h2, _⟩, _⟩ := h i hi
  injection hv with e1 e2 e3
  rw [e3]
  exact ⟨h1, h2⟩

end Go.Proofs.YtlihcjlonafohaaGreat
namespace Go.Proofs.YtlihcjlonafohaaGreat
open Go.RowKit Go.Joins

set_option maxRecDepth 100000 in
set_option maxHeartbeats 2000000 in
theorem rsize_any (u : Nat → S3) (l : LG) (w : World) (h : LV w u l) :
    Calls Tryz.prog 38 #[.agg (lcells u)] w fun e w' => e = .returned (.agg (vcells (sizeV l))) ∧ Gr w w' := by
  obtain ⟨W, hW, hg, hsz, hL, hR, hV⟩ := boxesSz u w
  have HL := Lib.hid hL
  have HR := Lib.hid hR
  have HV := Lib.hid hV
  have HG := Lib.hid hg
  have HN := Lib.hid (fun k (hk : k < 8) => h.len hk)
  have HLE := Lib.hid (fun k (hk : k < 8) => h.le hk)
  clear hL hR hV hg hsz h
  go_enter Tryz.func38, Tryz.ntmps38
  go_upto_region 2 with (fail)
  rw [← hW]
  clear hW
  go_wp2_with fail
  go_loopw [4] (fun i wr => ∃ k : Nat, k ≤ 8 ∧ i = .int .i64 k ∧ VBox wr (w.heap.size + 1 + 1) (szTo l k) ∧ VBox wr (w.heap.size + 1) (fun _ => 0) ∧ LBox wr w.heap.size u ∧ Gr w wr) (fun i _ => 8 - (intOf i).toNat)
  case atStart => exact ⟨0, by decide, rfl, HV.out, HR.out, HL.out, HG.out⟩
  case round =>
    obtain ⟨k, hk, rfl, hV, hR, hL, hgr⟩ := hrel
    rename World => wr
    by_cases hlt : k < 8
    · have hk0 : (0 : Int) ≤ (k : Int) := Int.natCast_nonneg _
      have hk8 : (k : Int) < 8 := by omega
      have hc := hV.at hlt
      have hl := hL.at hlt
      have hfz : wr.frozen? ⟨w.heap.size + 1 + 1, k, none⟩ = false := unfrozen_of_block hV.box k
      have hw := u64_len (HLE.out k hlt)
      rw [HN.out k hlt] at hl
      have HV2 := Lib.hid hV
      have HR2 := Lib.hid hR
      have HL2 := Lib.hid hL
      have HG2 := Lib.hid hgr
      clear hV hR hL hgr
      go_wp2_with fail
      go_roundw
      case measure => simp [intOf]; omega
      case rel =>
        refine ⟨k + 1, by omega, by go_num, ?_, HR2.out.far (by simp) _, HL2.out.far (by simp only []; omega) _, Gr.setCell HG2.out (by simp; omega) _⟩
        rw [← szTo_next]
        exact HV2.out.set hlt _
    · obtain rfl : k = 8 := by omega
      obtain ⟨s0, s1, s2, s3, s4, s5, s6, s7⟩ := hV.all
      obtain ⟨r0, r1, r2, r3, r4, r5, r6, r7⟩ := hR.zero
      obtain ⟨f0, f1, f2, f3, f4, f5, f6, f7⟩ := hR.fz
      have HG2 := Lib.hid hgr
      clear hV hR hL hgr
      go_wp2_with fail
      exact bodyPost_ret (v := .agg (vcells (szTo l 8))) (by simp [results, Tryz.results38, go_sem, *]) rfl ⟨rfl, by as_aux_lemma => (iterate 8 (with_reducible refine Gr.setCell ?_ (Nat.le_succ _) _)); exact HG2.out⟩
end Go.Proofs.YtlihcjlonafohaaGreat
namespace Go.Proofs.YtlihcjlonafohaaGreat
open Go.RowKit Go.Joins

set_option maxRecDepth 100000 in
set_option maxHeartbeats 4000000 in
theorem rstamp_any (u : Nat → S3) (l : LG) (v : Nat → Nat) (w : World) (h : LV w u l) :
    Calls Tryz.prog 40 #[.agg (lcells u), .agg (vcells v)] w fun e w' => e = .returned (.int .u64 (stampV l v : Int)) ∧ Gr w w' := by
  obtain ⟨W, hW, hg, hsz, hL, hV⟩ := boxesLV u v w
  have HV := Lib.hid hV
  have HL := Lib.hid hL
  have HG := Lib.hid hg
  have HX := Lib.hid (h.gr hg)
  clear hL hV hg hsz h
  go_enter Tryz.func40, Tryz.ntmps40
  go_upto_region 1 with (fail)
  rw [← hW]
  clear hW
  go_wp2_with fail
  go_loopw [5, 6] (fun s i wr => ∃ k : Nat, k ≤ 8 ∧ i = .int .i64 k ∧ s = .int .u64 (stampTo l v k : Int) ∧ Gr W wr) (fun _ i _ => 8 - (intOf i).toNat)
  case atStart => exact ⟨0, by decide, rfl, rfl, Gr.refl _⟩
  case round =>
    obtain ⟨k, hk, rfl, rfl, hgr⟩ := hrel
    rename World => wr
    by_cases hlt : k < 8
    · have hk0 : (0 : Int) ≤ (k : Int) := Int.natCast_nonneg _
      have hk8 : (k : Int) < 8 := by omega
      have hcv := (HV.out.gr hgr).at hlt
      have hcl := (HL.out.gr hgr).at hlt
      rw [HX.out.len hlt] at hcl
      have hle := HX.out.le hlt
      have hw := u64_len hle
      obtain ⟨m, hm⟩ : ∃ m, m = v k := ⟨_, rfl⟩
      obtain ⟨n, hn⟩ : ∃ n, n = (l k).length := ⟨_, rfl⟩
      obtain ⟨s, hs⟩ : ∃ s, s = stampTo l v k := ⟨_, rfl⟩
      rw [← hm] at hcv
      rw [← hn] at hcl hle hw
      rw [← hs]
      have HCV := Lib.hid hcv
      have HCL := Lib.hid hcl
      have HM := Lib.hid hm
      have HN := Lib.hid hn
      have HS := Lib.hid hs
      have HGR := Lib.hid hgr
      clear hcv hcl hm hn hs hgr
      rcases Nat.eq_zero_or_pos m with h0 | hpos
      · subst h0
        have HT : Hid (s = stampTo l v (k + 1)) := Lib.hid (by rw [stampTo_skip (Or.inl HM.out.symm)]; exact HS.out)
        go_upto_region 5 with (fail)
        refine qRegion (fun w' => w'.cell? ⟨w.heap.size + 1, k, none⟩ = some (.int .u64 0) ∧ w'.cell? ⟨w.heap.size, k, none⟩ = some (.slice (u k).a n (u k).c) ∧ Gr W w') (by kernel_rfl) (by kernel_rfl) ⟨(Gr.refl _).drew.cell HCV.out, (Gr.refl _).drew.cell HCL.out, HGR.out.drew⟩ ?_
        iterate 5
          refine qTake (by kernel_rfl) ?_
          apply Exists.intro
          refine ⟨fun wq hq => ?_, ?_⟩
          · go_light
            obtain ⟨e0, e1, -⟩ := hq
            go_simp
            try with_reducible rfl
            done
          try simp only [Act.put, List.setIfInBounds_toArray, List.set_cons_zero, List.set_cons_succ]
        iterate 9
          refine qSkip (by kernel_rfl) ?_
          try simp only [Act.put, List.setIfInBounds_toArray, List.set_cons_zero, List.set_cons_succ]
        iterate 2
          refine qTake (by kernel_rfl) ?_
          apply Exists.intro
          refine ⟨fun wq hq => ?_, ?_⟩
          · go_light
            obtain ⟨e0, e1, -⟩ := hq
            go_simp
            try with_reducible rfl
            done
          try simp only [Act.put, List.setIfInBounds_toArray, List.set_cons_zero, List.set_cons_succ]
        iterate 12
          refine qSkip (by kernel_rfl) ?_
          try simp only [Act.put, List.setIfInBounds_toArray, List.set_cons_zero, List.set_cons_succ]
        iterate 1
          refine qTake (by kernel_rfl) ?_
          apply Exists.intro
          refine ⟨fun wq hq => ?_, ?_⟩
          · go_light
            obtain ⟨e0, e1, -⟩ := hq
            go_simp
            try with_reducible rfl
            done
          try simp only [Act.put, List.setIfInBounds_toArray, List.set_cons_zero, List.set_cons_succ]
        refine qNil ?_
        rintro w3 ⟨-, -, hg3⟩
        have HG3 := Lib.hid hg3
        clear hg3
        go_wp2_with fail
        go_roundw
        case measure => simp [intOf]; omega
        case rel => exact ⟨k + 1, by omega, by go_num, by rw [← HT.out], HG3.out⟩
      · have hmp : (0 : Int) < (m : Int) := by omega
        have hmd : decide (0 < m) = true := decide_eq_true hpos
        by_cases hmn : m ≤ n
        · obtain ⟨d, hd⟩ : ∃ d, m = d + 1 := ⟨m - 1, by omega⟩
          have hdl : d < (l k).length := by rw [← HN.out]; omega
          obtain ⟨b, off, ha, xv, hx0, x0, x1, x2, -⟩ := HX.out.cell hlt hdl
          obtain ⟨t, ht⟩ : ∃ t, t = (l k)[d].stamp := ⟨_, rfl⟩
          rw [← ht] at x2
          have HC2 := Lib.hid x2
          have hcl2 := HCL.out
          rw [ha] at hcl2
          have HCL2 := Lib.hid hcl2
          have HMX : Hid (stampTo l v (k + 1) = max s t) := Lib.hid (by rw [stampTo_take (d := d) (by rw [← HM.out, hd]) hdl, ← HS.out, ht])
          have hsub : IntKind.u64.wrap ((m : Int) - 1) = (d : Int) := by simp [IntKind.wrap, IntKind.bits, IntKind.signed]; omega
          have hd0 : (0 : Int) ≤ (d : Int) := by omega
          have hd1 : (d : Int) < (n : Int) := by omega
          have hmnd : decide (m ≤ n) = true := decide_eq_true hmn
          have HD := Lib.hid hd
          clear hx0 x0 x1 x2 hcl2 ha ht hd hdl
          by_cases hst : s < t
          · have hsd : decide (s < t) = true := decide_eq_true hst
            have HT : Hid (t = stampTo l v (k + 1)) := Lib.hid (by rw [HMX.out]; omega)
            go_upto_region 5 with (fail)
            refine qRegion (fun w' => w'.cell? ⟨w.heap.size + 1, k, none⟩ = some (.int .u64 (m : Int)) ∧ w'.cell? ⟨w.heap.size, k, none⟩ = some (.slice (some ⟨b, off, none⟩) n (u k).c) ∧ w'.cell? ⟨b, off + d * 12 + 2, none⟩ = some (.int .u64 (t : Int)) ∧ Gr W w') (by kernel_rfl) (by kernel_rfl) ⟨(Gr.refl _).drew.cell HCV.out, (Gr.refl _).drew.cell HCL2.out, HGR.out.drew.cell HC2.out, HGR.out.drew⟩ ?_
            iterate 29
              refine qTake (by kernel_rfl) ?_
              apply Exists.intro
              refine ⟨fun wq hq => ?_, ?_⟩
              · go_light
                obtain ⟨e0, e1, e2, -⟩ := hq
                go_simp
                try with_reducible rfl
                done
              try simp only [Act.put, List.setIfInBounds_toArray, List.set_cons_zero, List.set_cons_succ]
            refine qNil ?_
            rintro w3 ⟨h30, h31, h32, hg3⟩
            have H30 := Lib.hid h30
            have H31 := Lib.hid h31
            have H32 := Lib.hid h32
            have HG3 := Lib.hid hg3
            clear h30 h31 h32 hg3
            go_upto_region 6 with (fail)
            refine qRegion (fun w' => w'.cell? ⟨w.heap.size + 1, k, none⟩ = some (.int .u64 (m : Int)) ∧ w'.cell? ⟨w.heap.size, k, none⟩ = some (.slice (some ⟨b, off, none⟩) n (u k).c) ∧ w'.cell? ⟨b, off + d * 12 + 2, none⟩ = some (.int .u64 (t : Int)) ∧ Gr W w') (by kernel_rfl) (by kernel_rfl) ⟨(Gr.refl _).drew.cell H30.out, (Gr.refl _).drew.cell H31.out, (Gr.refl _).drew.cell H32.out, HG3.out.drew⟩ ?_
            iterate 11
              refine qTake (by kernel_rfl) ?_
              apply Exists.intro
              refine ⟨fun wq hq => ?_, ?_⟩
              · go_light
                obtain ⟨e0, e1, e2, -⟩ := hq
                go_simp
                try with_reducible rfl
                done
              try simp only [Act.put, List.setIfInBounds_toArray, List.set_cons_zero, List.set_cons_succ]
            refine qNil ?_
            rintro w4 ⟨-, -, -, hg4⟩
            have HG4 := Lib.hid hg4
            clear hg4
            go_wp2_with fail
            go_roundw
            case measure => simp [intOf]; omega
            case rel => exact ⟨k + 1, by omega, by go_num, by rw [← HT.out], HG4.out⟩
          · have hsd : decide (s < t) = false := decide_eq_false hst
            have HT : Hid (s = stampTo l v (k + 1)) := Lib.hid (by rw [HMX.out]; omega)
            go_upto_region 5 with (fail)
            refine qRegion (fun w' => w'.cell? ⟨w.heap.size + 1, k, none⟩ = some (.int .u64 (m : Int)) ∧ w'.cell? ⟨w.heap.size, k, none⟩ = some (.slice (some ⟨b, off, none⟩) n (u k).c) ∧ w'.cell? ⟨b, off + d * 12 + 2, none⟩ = some (.int .u64 (t : Int)) ∧ Gr W w') (by kernel_rfl) (by kernel_rfl) ⟨(Gr.refl _).drew.cell HCV.out, (Gr.refl _).drew.cell HCL2.out, HGR.out.drew.cell HC2.out, HGR.out.drew⟩ ?_
            iterate 29
              refine qTake (by kernel_rfl) ?_
              apply Exists.intro
              refine ⟨fun wq hq => ?_, ?_⟩
              · go_light
                obtain ⟨e0, e1, e2, -⟩ := hq
                go_simp
                try with_reducible rfl
                done
              try simp only [Act.put, List.setIfInBounds_toArray, List.set_cons_zero, List.set_cons_succ]
            refine qNil ?_
            rintro w3 ⟨-, -, -, hg3⟩
            have HG3 := Lib.hid hg3
            clear hg3
            go_wp2_with fail
            go_roundw
            case measure => simp [intOf]; omega
            case rel => exact ⟨k + 1, by omega, by go_num, by rw [← HT.out], HG3.out⟩
        · have hmnd : decide (m ≤ n) = false := decide_eq_false hmn
          have HT : Hid (s = stampTo l v (k + 1)) := Lib.hid (by rw [stampTo_skip (Or.inr (by rw [← HM.out, ← HN.out]; omega))]; exact HS.out)
          go_upto_region 5 with (fail)
          refine qRegion (fun w' => w'.cell? ⟨w.heap.size + 1, k, none⟩ = some (.int .u64 (m : Int)) ∧ w'.cell? ⟨w.heap.size, k, none⟩ = some (.slice (u k).a n (u k).c) ∧ Gr W w') (by kernel_rfl) (by kernel_rfl) ⟨(Gr.refl _).drew.cell HCV.out, (Gr.refl _).drew.cell HCL.out, HGR.out.drew⟩ ?_
          iterate 16
            refine qTake (by kernel_rfl) ?_
            apply Exists.intro
            refine ⟨fun wq hq => ?_, ?_⟩
            · go_light
              obtain ⟨e0, e1, -⟩ := hq
              go_simp
              try with_reducible rfl
              done
            try simp only [Act.put, List.setIfInBounds_toArray, List.set_cons_zero, List.set_cons_succ]
          iterate 12
            refine qSkip (by kernel_rfl) ?_
            try simp only [Act.put, List.setIfInBounds_toArray, List.set_cons_zero, List.set_cons_succ]
          iterate 1
            refine qTake (by kernel_rfl) ?_
            apply Exists.intro
            refine ⟨fun wq hq => ?_, ?_⟩
            · go_light
              obtain ⟨e0, e1, -⟩ := hq
              go_simp
              try with_reducible rfl
              done
            try simp only [Act.put, List.setIfInBounds_toArray, List.set_cons_zero, List.set_cons_succ]
          refine qNil ?_
          rintro w3 ⟨-, -, hg3⟩
          have HG3 := Lib.hid hg3
          clear hg3
          go_wp2_with fail
          go_roundw
          case measure => simp [intOf]; omega
          case rel => exact ⟨k + 1, by omega, by go_num, by rw [← HT.out], HG3.out⟩
    · obtain rfl : k = 8 := by omega
      have HGR := Lib.hid hgr
      clear hgr
      go_wp2_with fail
      go_ret
      exact ⟨rfl, HG.out.trans HGR.out⟩
end Go.Proofs.YtlihcjlonafohaaGreat
