/- Walks: comparing two disks. Rows of structs, and rows of files that the call owns. Walks: a copied list of files. Stores into a row of files; walks: copies of a disk. -/
import Derived.Test.YtccjkfccklfjkaaGreatDoorZs11
import Derived.ChangeKeysEq
import Derived.Laws.StructEq
import Derived.Test.YtccjkfccklfjkaaGreatDoorZs04
import Derived.Laws.AppendOwnNone
import Derived.Maps.AppendAt
import Derived.Deep.AppendLies
import Derived.Deep.RegionHeld3
import Derived.Deep.RegionLaw
import Derived.Lib.SliceRun
namespace Go.Proofs.YtccjkfccklfjkaaGreatDoor
open Go.RowKit

def fv (f : F) : Array Value := #[.string f.name, .string f.kept, .string f.loose]
def eqFB (f g : F) : Bool := eqS f.name g.name && (eqS f.kept g.kept && eqS f.loose g.loose)
theorem eqFB_iff {f g : F} : eqFB f g = true ↔ f = g := by
  unfold eqFB
  rw [Bool.and_eq_true, Bool.and_eq_true, eqS_iff, eqS_iff, eqS_iff]
  refine ⟨fun ⟨h1, h2, h3⟩ => ?_, fun h => by subst h; exact ⟨rfl, rfl, rfl⟩⟩
  cases f; cases g
  simp_all
theorem fieldsFile : ∃ f0 f1 f2 : Field, Tryz.prog.fieldsOf 63 = #[f0, f1, f2] ∧ f0.name ≠ "_" ∧ f1.name ≠ "_" ∧ f2.name ≠ "_" ∧ f0.type = 9 ∧ f1.type = 9 ∧ f2.type = 9 ∧ f0.offset = 0 ∧ f1.offset = 1 ∧ f2.offset = 2 := by
  refine ⟨(Tryz.prog.fieldsOf 63)[0]'(by decide +kernel), (Tryz.prog.fieldsOf 63)[1]'(by decide +kernel), (Tryz.prog.fieldsOf 63)[2]'(by decide +kernel), by kernel_rfl, by decide +kernel, by decide +kernel, by decide +kernel, by kernel_rfl, by kernel_rfl, by kernel_rfl, by kernel_rfl, by kernel_rfl, by kernel_rfl⟩
theorem part_f (f : F) (w : World) : (part 9 (fv f) 0).run Tryz.prog w = .ok (.string f.name) w ∧ (part 9 (fv f) 1).run Tryz.prog w = .ok (.string f.kept) w ∧ (part 9 (fv f) 2).run Tryz.prog w = .ok (.string f.loose) w := by
  refine ⟨?_, ?_, ?_⟩ <;> (show _ = _; kernel_rfl)
theorem equal_f (f g : F) (w : World) : (Op.equalIn 10000 63 (.agg (fv f)) (.agg (fv g))).run Tryz.prog w = .ok (eqFB f g) w := by
  obtain ⟨f0, f1, f2, hf, n0, n1, n2, t0, t1, t2, o0, o1, o2⟩ := fieldsFile
  obtain ⟨p0, p1, p2⟩ := part_f f w
  obtain ⟨q0, q1, q2⟩ := part_f g w
  rw [run_equalIn_struct w 9999 _ _ _ (by kernel_rfl) (by kernel_rfl), hf]
  simp only [Op.eqFields, n0, n1, n2, t0, t1, t2, o0, o1, o2, if_true, ne_eq, not_false_eq_true, Sem.run_bind, p0, p1, p2, q0, q1, q2, Result.andThen_ok, run_equalIn_string w 9998 9 _ _ Tryz.underlying9, Sem.run_ite, Sem.run_pure]
  unfold eqFB eqS
  cases (f.name.toList == g.name.toList) <;> cases (f.kept.toList == g.kept.toList) <;> cases (f.loose.toList == g.loose.toList) <;> simp

def SameRel (La Lb : List F) (W : World) (i : Value) (wr : World) : Prop :=
  ∃ k m : Nat, k ≤ La.length ∧ i = .int .i64 k ∧ wr = W.drewN m ∧ ∀ j (h1 : j < La.length) (h2 : j < Lb.length), j < k → La[j] = Lb[j]
def sameB : List F → List F → Bool
  | [], [] => true
  | f :: a, g :: b => eqFB f g && sameB a b
  | _, _ => false
theorem sameB_iff {La Lb : List F} : sameB La Lb = true ↔ La = Lb := by
  induction La generalizing Lb with
  | nil => cases Lb <;> simp [sameB]
  | cons f a ih =>
    cases Lb with
    | nil => simp [sameB]
    | cons g b => simp [sameB, eqFB_iff, ih]
theorem sameB_yes {La Lb : List F} (h : La = Lb) : sameB La Lb = true := sameB_iff.2 h
theorem sameB_no {La Lb : List F} (h : La ≠ Lb) : sameB La Lb = false := by
  rw [Bool.eq_false_iff]
  exact fun e => h (sameB_iff.1 e)

set_option maxRecDepth 100000 in
set_option maxHeartbeats 1000000 in
theorem same_any (va vb : Value) (La Lb : List F) (w : World) (ha : FV w va La) (hb : FV w vb Lb) :
    Calls Tryz.prog 16 #[.agg #[va], .agg #[vb]] w fun e w' => e = .returned (.bool (sameB La Lb)) ∧ Gr w w' := by
  obtain ⟨A, ca, rfl, la1, ⟨la2, _⟩, la3⟩ := ha
  obtain ⟨B, cb, rfl, lb1, ⟨lb2, _⟩, lb3⟩ := hb
  unfold maxLen at la2 lb2
  obtain ⟨n, hn⟩ : ∃ n, n = La.length := ⟨_, rfl⟩
  by_cases hl : La.length = Lb.length
  · have HL := Lib.hid hl
    rw [← hl, ← hn] at lb1
    rw [← hl, ← hn]
    rw [← hn] at la1
    have HN := Lib.hid hn
    have ht : ((n : Int) != (n : Int)) = false := by simp
    have HA := Lib.hid la3
    have HB := Lib.hid lb3
    clear hl hn la3 lb3
    have HG := fun A B => Lib.hid ((gr_box w (.cells #[.slice A n ca] 24)).alloc (.cells #[.slice B n cb] 24))
    go_enter Tryz.func16, Tryz.ntmps16
    go_wp2_with fail
    go_loopw [5] (fun i wr => SameRel La Lb ((w.alloc (.cells #[.slice A n ca] 24)).alloc (.cells #[.slice B n cb] 24)) i wr) (fun i _ => n - (intOf i).toNat)
    case atStart => exact ⟨0, 0, Nat.zero_le _, rfl, rfl, fun j _ _ h => absurd h (Nat.not_lt_zero _)⟩
    case round =>
      obtain ⟨k, m, hk, rfl, rfl, hkk⟩ := hrel
      rw [← HN.out] at hk
      have HK := Lib.hid hkk
      clear hkk
      by_cases hlt : k < n
      · have hkA : k < La.length := by rw [← HN.out]; exact hlt
        have hkB : k < Lb.length := by rw [← HL.out, ← HN.out]; exact hlt
        obtain ⟨b, off, rfl, ha0, ha1, ha2⟩ := HA.out k hkA
        obtain ⟨b', off', rfl, hb0, hb1, hb2⟩ := HB.out k hkB
        obtain ⟨f, hf⟩ : ∃ f, f = La[k] := ⟨_, rfl⟩
        obtain ⟨g, hg⟩ : ∃ g, g = Lb[k] := ⟨_, rfl⟩
        have G := (HG (some ⟨b, off, none⟩) (some ⟨b', off', none⟩)).out
        rw [← hf] at ha0 ha1 ha2
        rw [← hg] at hb0 hb1 hb2
        have a0 := G.cell ha0
        have a1 := G.cell ha1
        have a2 := G.cell ha2
        have c0 := G.cell hb0
        have c1 := G.cell hb1
        have c2 := G.cell hb2
        clear ha0 ha1 ha2 hb0 hb1 hb2 G
        have he := fun w => equal_f f g w
        unfold fv at he
        rcases hq : eqFB f g with _ | _
        · have hne : La ≠ Lb := fun h => by
            subst h
            rw [hf, hg] at hq
            rw [eqFB_iff.2 rfl] at hq
            cases hq
          have HF := Lib.hid (sameB_no hne)
          rw [hq] at he
          clear hq hf hg hne hkA hkB
          go_wp2_with fail
          go_quiet (fail)
          go_wp2
          go_ret
          exact ⟨by rw [HF.out]; rfl, by rw [World.drewN_drewN]; exact ((HG _ _).out.drewN _)⟩
        · have hst : ∀ j (h1 : j < La.length) (h2 : j < Lb.length), j < k + 1 → La[j] = Lb[j] := by
            intro j h1 h2 hj
            by_cases e : j = k
            · subst e; rw [← hf, ← hg]; exact eqFB_iff.1 hq
            · exact HK.out j h1 h2 (by omega)
          have HS := Lib.hid hst
          rw [hq] at he
          clear hq hf hg hst hkA hkB
          go_wp2_with fail
          go_quiet (fail)
          go_wp2
          go_roundw
          case rel => exact ⟨k + 1, _, by rw [← HN.out]; omega, by go_num, rfl, HS.out⟩
          case measure => simp [intOf]; omega
      · have hall : La = Lb := List.ext_getElem HL.out fun j h1 h2 => HK.out j h1 h2 (by rw [← HN.out] at h1; omega)
        have HF := Lib.hid (sameB_yes hall)
        clear hall
        go_wp2_with fail
        go_ret
        exact ⟨by rw [HF.out]; rfl, (HG _ _).out.drewN _⟩
  · have HF := Lib.hid (sameB_no (La := La) (Lb := Lb) (fun h => hl (by rw [h])))
    have ht : ((La.length : Int) != (Lb.length : Int)) = true := by rw [bne_iff_ne]; omega
    obtain ⟨m, hm⟩ : ∃ m, m = Lb.length := ⟨_, rfl⟩
    rw [← hm] at ht lb1 ⊢
    rw [← hn] at ht la1 ⊢
    clear hl hn hm la3 lb3
    have HG := Lib.hid ((gr_box w (.cells #[.slice A n ca] 24)).alloc (.cells #[.slice B m cb] 24))
    go_enter Tryz.func16, Tryz.ntmps16
    go_wp2_with fail
    go_ret
    exact ⟨by rw [HF.out]; rfl, HG.out⟩
end Go.Proofs.YtccjkfccklfjkaaGreatDoor
namespace Go.Proofs.YtccjkfccklfjkaaGreatDoor
open Go.RowKit

def fcell (f : F) : List Value := [.string f.name, .string f.kept, .string f.loose]
def fcells (L : List F) : List Value := L.flatMap fcell
theorem fcell_len (f : F) : (fcell f).length = 3 := rfl
theorem fcells_len (L : List F) : (fcells L).length = L.length * 3 := rows_len fcell 3 fcell_len L
theorem fcells_one (L : List F) : ∀ u ∈ fcells L, u.oneCell' = true := by
  intro u hu
  obtain ⟨f, _, hf⟩ := List.mem_flatMap.1 hu
  unfold fcell at hf
  simp only [List.mem_cons, List.not_mem_nil, or_false] at hf
  rcases hf with rfl | rfl | rfl <;> rfl
/-- The cells of a slice of files, as append asks for them. -/
theorem FV.news {w : World} {a : Addr} {n c : Nat} {L : List F} (h : FV w (.slice (some a) n c) L) : n = L.length ∧ ∀ j u, (fcells L)[j]? = some u → w.cell? (a.add j) = some u := by
  obtain ⟨A, c', hv, h1, h2, h3⟩ := h
  injection hv with e1 e2 e3
  subst e1 e2 e3
  refine ⟨rfl, fun j u hu => ?_⟩
  obtain ⟨q, r, hq, hr, rfl, hg⟩ := rows_of fcell 3 fcell_len (by decide) L j u hu
  obtain ⟨b, off, hh, c0, c1, c2⟩ := h3 q hq
  injection hh with hh
  subst hh
  rw [Go.WideShapes.add_plain]
  match r, hr with
  | 0, _ =>
    have : (Value.string L[q].name) = u := by simpa [fcell] using hg
    rw [← this, show off + (q * 3 + 0) = off + q * 3 by omega]
    exact c0
  | 1, _ =>
    have : (Value.string L[q].kept) = u := by simpa [fcell] using hg
    rw [← this, show off + (q * 3 + 1) = off + q * 3 + 1 by omega]
    exact c1
  | 2, _ =>
    have : (Value.string L[q].loose) = u := by simpa [fcell] using hg
    rw [← this, show off + (q * 3 + 2) = off + q * 3 + 2 by omega]
    exact c2

/-- The call owns the slice v from block B on: it reads as the files L. -/
def FO (w : World) (B : Nat) (v : Value) (L : List F) : Prop := w.ownsRow B 63 3 v L.length (fcells L)
theorem FO.gr {w w' : World} {B : Nat} {v : Value} {L : List F} (h : FO w B v L) (g : Gr w w') : FO w' B v L := own_gr h g
theorem FO.le {w : World} {B B' : Nat} {v : Value} {L : List F} (h : FO w B v L) (hb : B' ≤ B) : FO w B' v L := own_le h hb
theorem FO.nil (w : World) (B : Nat) : FO w B (.slice none 0 0) [] := World.ownsRow_nil w B _ _
/-- The places of a row that is owned. -/
theorem FO.at_ {w : World} {B g n cap : Nat} {L : List F} (h : FO w B (.slice (some ⟨g, 0, none⟩) n cap) L) {j : Nat} (hj : j < L.length) : FCell w g (j * 3) L[j] := by
  have hn : n = L.length := by
    rcases h.2 with ⟨hh, _⟩ | ⟨g', cap', cur, hh, _⟩
    · cases hh
    · injection hh
  subst hn
  have hj3 : j * 3 + 2 < L.length * 3 := by omega
  refine ⟨?_, ?_, ?_⟩
  · rw [h.cellAt (j * 3) (by omega)]; exact rows_at fcell 3 fcell_len L j 0 hj (by decide)
  · rw [h.cellAt (j * 3 + 1) (by omega)]; exact rows_at fcell 3 fcell_len L j 1 hj (by decide)
  · rw [h.cellAt (j * 3 + 2) (by omega)]; exact rows_at fcell 3 fcell_len L j 2 hj (by decide)
theorem FO.fv {w : World} {B : Nat} {v : Value} {L : List F} (h : FO w B v L) : FV w v L := by
  have h' := h
  rcases h.2 with ⟨rfl, h0⟩ | ⟨g, cap, cur, rfl, hb, hg, hn, hm, hc, ht⟩
  · have : L = [] := List.length_eq_zero_iff.1 h0
    subst this
    exact FV.nil w
  · refine ⟨_, cap, rfl, hn, ⟨hm, fun h => by cases h⟩, fun j hj => ⟨g, 0, rfl, ?_⟩⟩
    rw [Nat.zero_add]
    exact FO.at_ h' hj
theorem FO.form {w : World} {B : Nat} {v : Value} {L : List F} (h : FO w B v L) : ∃ A c, v = .slice A L.length c ∧ L.length ≤ c ∧ c ≤ 9223372036854775807 := own_form h
theorem infoFile : (Tryz.prog.info? 63).map (fun i => (i.zero, i.size, i.bytes)) = some (some (.agg #[.string ⟨#[]⟩, .string ⟨#[]⟩, .string ⟨#[]⟩]), 3, 48) := by kernel_rfl
end Go.Proofs.YtccjkfccklfjkaaGreatDoor
namespace Go.Proofs.YtccjkfccklfjkaaGreatDoor
open Go.RowKit

set_option maxRecDepth 100000 in
/-- append([]File{}, l...): new memory that reads as l. -/
theorem wpList_copy_fv {W : World} {ops : Array Oper} {rest : List Oper} {o : Oper} {a : Act} {Q : Exit → Act → World → Prop} (hgd : o.guard = none) (s x : Operand)
    (ho : o.op = .call { callee := .builtin .append, args := #[s, x], argTypes := #[22, 22] })
    (H : Nat) (hH : W.heap.size = H) (hs : a.eval s = .slice (some ⟨H, 0, none⟩) 0 0) (v : Value) (L : List F) (hx : a.eval x = v) (hv : FV W v L) (hlen : L.length * 48 ≤ 140737488355328)
    (h : ∀ A' c' w', FO w' W.heap.size (.slice A' L.length c') L → Gr W w' → wpList Tryz.prog ops Q rest (a.put o.dst (.slice A' L.length c')) w') :
    wpList Tryz.prog ops Q (o :: rest) a (W.alloc (.cells #[] 63)) := by
  obtain ⟨i0, hi, hz0, hz1, hz2⟩ := info_parts infoFile
  have hv' := hv
  subst hH
  obtain ⟨A, c, rfl, l1, l2, l3⟩ := hv
  have G1 : Gr W (W.alloc (.cells #[] 63)) := (Gr.refl _).alloc _
  have ho0 := own_none W 63 3
  cases A with
  | none =>
    have hn0 : L.length = 0 := by
      rcases Nat.eq_zero_or_pos L.length with h | h
      · exact h
      · obtain ⟨b, off, hh, _⟩ := l3 0 h
        cases hh
    have hL : L = [] := List.length_eq_zero_iff.1 hn0
    have hc0 := l2.2 rfl
    subst hL hc0
    refine wpList_append_own_none hgd s x 22 ho W.heap.size 63 i0 3 Tryz.underlying22 hi _ _ _ hs ho0 hx ?_
    have hp := h (some ⟨W.heap.size, 0, none⟩) 0 _ ho0 G1
    exact hp
  | some ad =>
    obtain ⟨hn, hnews⟩ := hv'.news
    refine wpList_append_own _ hgd s x 22 ho W.heap.size 63 i0 _ 3 48 Tryz.underlying22 hi hz0 hz1 hz2 rfl (by decide) _ _ _ hs ho0 ad L.length c (fcells L) hx (fcells_len L) ?_ (fcells_one L) (by unfold maxLen; omega) (by omega) G1.size ?_
    · exact fun j u hu => G1.cell (hnews j u hu)
    · intro v' w' hown hgrow _
      rw [Nat.zero_add, List.nil_append] at hown
      obtain ⟨A', c', rfl, _⟩ := own_form hown
      exact h A' c' w' hown (gr_of_grown G1 ho0 hgrow G1.size)

/-- A call's answer: a disk in new memory. -/
def RetDisk (L : List F) (w : World) (e : Ending) (w' : World) : Prop :=
  ∃ v, e = .returned (.agg #[v]) ∧ FO w' w.heap.size v L ∧ Gr w w'

end Go.Proofs.YtccjkfccklfjkaaGreatDoor
namespace Go.Proofs.YtccjkfccklfjkaaGreatDoor
open Go.RowKit

section
variable {w : World} {B g n c : Nat} {L : List F}
theorem FO.len (h : FO w B (.slice (some ⟨g, 0, none⟩) n c) L) : n = L.length ∧ L.length ≤ c ∧ c ≤ 9223372036854775807 ∧ B ≤ g ∧ g < w.heap.size := by
  rcases h.2 with ⟨hh, _⟩ | ⟨g', cap', cur, hh, hb, hg, hn, hm, _⟩
  · cases hh
  · injection hh with h1 h2 h3
    injection h1 with h1
    injection h1 with h1
    subst h1 h2 h3
    exact ⟨rfl, hn, hm, hb, (Array.getElem?_eq_some_iff.1 hg).1⟩
theorem FO.free (h : FO w B (.slice (some ⟨g, 0, none⟩) n c) L) (j : Nat) : w.frozen? ⟨g, j, none⟩ = false := by
  obtain ⟨rfl, _⟩ := h.len
  exact h.frozenAt j
/-- A value that has at least one element lies in a block. -/
theorem FO.addr {v : Value} (h : FO w B v L) {i : Nat} (hi : i < L.length) : ∃ g c, v = .slice (some ⟨g, 0, none⟩) L.length c := by
  obtain ⟨g, c, hv, _⟩ := World.ownsRow.form h (by omega)
  exact ⟨g, c, hv⟩
theorem FO.store (h : FO w B (.slice (some ⟨g, 0, none⟩) n c) L) {i r : Nat} (hi : i < L.length) (hr : r < 3) (f : F) (u : Value) (hf : fcell f = (fcell L[i]).set r u) :
    FO (w.setCell ⟨g, i * 3 + r, none⟩ u) B (.slice (some ⟨g, 0, none⟩) n c) (L.set i f) ∧ w.grownBy (w.setCell ⟨g, i * 3 + r, none⟩ u) (some g) := by
  obtain ⟨rfl, _⟩ := h.len
  obtain ⟨h1, h2⟩ := h.stored (i * 3 + r) u
  refine ⟨?_, h2⟩
  unfold FO
  rw [List.length_set]
  have : fcells (L.set i f) = (fcells L).set (i * 3 + r) u := (rows_set fcell 3 fcell_len L i r hi hr f u hf).symm
  rw [this]
  exact h1
theorem FO.put3 (h : FO w B (.slice (some ⟨g, 0, none⟩) n c) L) {i : Nat} (hi : i < L.length) (f : F) :
    FO (((w.setCell ⟨g, i * 3, none⟩ (.string f.name)).setCell ⟨g, i * 3 + 1, none⟩ (.string f.kept)).setCell ⟨g, i * 3 + 2, none⟩ (.string f.loose)) B (.slice (some ⟨g, 0, none⟩) n c) (L.set i f) := by
  obtain ⟨h1, _⟩ := h.store hi (r := 0) (by decide) ⟨f.name, L[i].kept, L[i].loose⟩ (.string f.name) rfl
  obtain ⟨h2, _⟩ := h1.store (i := i) (by rw [List.length_set]; exact hi) (r := 1) (by decide) ⟨f.name, f.kept, L[i].loose⟩ (.string f.kept) (by rw [List.getElem_set_self]; rfl)
  obtain ⟨h3, _⟩ := h2.store (i := i) (by rw [List.length_set, List.length_set]; exact hi) (r := 2) (by decide) f (.string f.loose) (by rw [List.getElem_set_self]; rfl)
  rw [List.set_set, List.set_set] at h3
  exact h3
theorem FO.put2 (h : FO w B (.slice (some ⟨g, 0, none⟩) n c) L) {i : Nat} (hi : i < L.length) (x y : ByteArray) :
    FO ((w.setCell ⟨g, i * 3 + 1, none⟩ (.string x)).setCell ⟨g, i * 3 + 2, none⟩ (.string y)) B (.slice (some ⟨g, 0, none⟩) n c) (L.set i ⟨L[i].name, x, y⟩) := by
  obtain ⟨h2, _⟩ := h.store hi (r := 1) (by decide) ⟨L[i].name, x, L[i].loose⟩ (.string x) rfl
  obtain ⟨h3, _⟩ := h2.store (i := i) (by rw [List.length_set]; exact hi) (r := 2) (by decide) ⟨L[i].name, x, y⟩ (.string y) (by rw [List.getElem_set_self]; rfl)
  rw [List.set_set] at h3
  exact h3
end

/-- The box of one file. -/
theorem fbox (w : World) (f : F) : FCell (w.alloc (.cells #[.string f.name, .string f.kept, .string f.loose] 63)) w.heap.size 0 f := ⟨by simp, by simp, by simp⟩
def RetFiles (L : List F) (w : World) (e : Ending) (w' : World) : Prop := ∃ v, e = .returned v ∧ FO w' w.heap.size v L ∧ Gr w w'
set_option maxRecDepth 100000 in
theorem sclone_any (v : Value) (L : List F) (w : World) (hv : FV w v L) (hlen : L.length * 48 ≤ 140737488355328) :
    Calls Tryz.prog 106 #[v] w fun e w' => RetFiles L w e w' := by
  obtain ⟨A, c, hva, l1, ⟨_, l2⟩, l3⟩ := id hv
  have HV := Lib.hid hv
  subst hva
  clear hv
  cases A with
  | none =>
    have hn0 : L.length = 0 := by
      rcases Nat.eq_zero_or_pos L.length with h | h
      · exact h
      · obtain ⟨b, off, hh, _⟩ := l3 0 h
        cases hh
    have hL : L = [] := List.length_eq_zero_iff.1 hn0
    have hc0 := l2 rfl
    subst hL hc0
    clear l1 l2 l3 hn0
    have he : ∀ w : World, (binOp .eql 22 (.slice none 0 0) (.slice none 0 0)).run Tryz.prog w = .ok (.bool true) w := fun w => Lib.run_eql_slice_nil w 22 63 none 0 0 0 0 Tryz.underlying22
    go_enter Tryz.func106, Tryz.ntmps106
    go_wp2
    go_ret
    exact ⟨_, rfl, FO.nil _ _, Gr.refl _⟩
  | some ad =>
    clear l1 l2 l3
    have he : ∀ w : World, (binOp .eql 22 (.slice (some ad) L.length c) (.slice none 0 0)).run Tryz.prog w = .ok (.bool false) w := fun w => Lib.run_eql_slice_nil w 22 63 (some ad) L.length c 0 0 Tryz.underlying22
    go_enter Tryz.func106, Tryz.ntmps106
    go_wp2_with (at_builtin; refine wpList_copy_fv rfl (.tmp 5) (.tmp 6) rfl w.heap.size rfl rfl _ L rfl HV.out hlen ?_)
    intro A' c' w1 hown g1
    have HO := Lib.hid hown
    clear hown
    go_wp2
    go_ret
    exact ⟨_, rfl, HO.out, g1⟩

def CopyRel (L : List F) (v : Value) (w : World) (i : Value) (wr : World) : Prop :=
  ∃ k : Nat, k ≤ L.length ∧ i = .int .i64 k ∧ FO wr (w.heap.size + 1 + 1) v L ∧ Gr w wr ∧ w.heap.size + 1 < wr.heap.size ∧ wr.cell? ⟨w.heap.size + 1, 0, none⟩ = some (.slice none 0 0) ∧ wr.frozen? ⟨w.heap.size + 1, 0, none⟩ = false
/-- What holds of the world while one file of the row is copied. -/
def CopyT (L : List F) (g n c bx k : Nat) (f : F) (w w' : World) : Prop :=
  FO w' (w.heap.size + 1 + 1) (.slice (some ⟨g, 0, none⟩) n c) L ∧ Gr w w' ∧ g < bx ∧ bx < w'.heap.size ∧ w.heap.size + 1 < bx ∧ w'.cell? ⟨w.heap.size + 1, 0, none⟩ = some (.slice none 0 0) ∧ w'.frozen? ⟨w.heap.size + 1, 0, none⟩ = false ∧ ∃ hk : k < L.length, f = L[k]
abbrev CopyC (g bx k : Nat) (f : F) (w' : World) : Prop :=
  w'.cell? ⟨bx, 0, none⟩ = some (.string f.name) ∧ w'.cell? ⟨bx, 1, none⟩ = some (.string f.kept) ∧ w'.cell? ⟨bx, 2, none⟩ = some (.string f.loose)
          ∧ w'.cell? ⟨g, k * 3, none⟩ = some (.string f.name) ∧ w'.cell? ⟨g, k * 3 + 1, none⟩ = some (.string f.kept) ∧ w'.cell? ⟨g, k * 3 + 2, none⟩ = some (.string f.loose)
          ∧ w'.frozen? ⟨g, k * 3, none⟩ = false ∧ w'.frozen? ⟨g, k * 3 + 1, none⟩ = false ∧ w'.frozen? ⟨g, k * 3 + 2, none⟩ = false
theorem copyC_of {L : List F} {g n c bx k : Nat} {f : F} {w w' : World} (hb : FCell w' bx 0 f) (h : CopyT L g n c bx k f w w') : CopyC g bx k f w' ∧ CopyT L g n c bx k f w w' := by
  obtain ⟨h1, h2, h3, h4, h5, h6, h7, hk, hf⟩ := id h
  have hc := h1.at_ hk
  rw [← hf] at hc
  exact ⟨⟨hb.1, hb.2.1, hb.2.2, hc.1, hc.2.1, hc.2.2, h1.free _, h1.free _, h1.free _⟩, h⟩
theorem copyT_gr {L : List F} {g n c bx k : Nat} {f : F} {w w1 w2 : World} (h : CopyT L g n c bx k f w w1) (q : Gr w1 w2) : CopyT L g n c bx k f w w2 := by
  obtain ⟨h1, h2, h3, h4, h5, h6, h7, h8⟩ := h
  exact ⟨h1.gr q, h2.trans q, h3, Nat.lt_of_lt_of_le h4 q.size, h5, q.cell h6, q.frozen (show w.heap.size + 1 < _ by omega) h7, h8⟩
theorem keepCp {L : List F} {g n c bx k : Nat} {f : F} {w w1 w2 : World} (h : CopyC g bx k f w1 ∧ CopyT L g n c bx k f w w1) (q : Gr w1 w2) : CopyC g bx k f w2 ∧ CopyT L g n c bx k f w w2 :=
  copyC_of (FCell.gr ⟨h.1.1, h.1.2.1, h.1.2.2.1⟩ q) (copyT_gr h.2 q)
theorem drewCp {L : List F} {g n c bx k : Nat} {f : F} {w w1 : World} (h : CopyC g bx k f w1 ∧ CopyT L g n c bx k f w w1) : CopyC g bx k f w1.drew ∧ CopyT L g n c bx k f w w1.drew := keepCp h (Gr.refl _).drew
theorem set_self {L : List F} {i : Nat} (h : i < L.length) : L.set i L[i] = L := List.set_getElem_self h
theorem FCell.far {w : World} {b o : Nat} {f : F} (h : FCell w b o f) {p : Addr} (hp : p.block ≠ b) (u : Value) : FCell (w.setCell p u) b o f := by
  have : ∀ j, (w.setCell p u).cell? ⟨b, j, none⟩ = w.cell? ⟨b, j, none⟩ := fun j => World.cell?_setCell_other _ _ _ _ (fun e => hp (by rw [e]))
  exact ⟨by rw [this]; exact h.1, by rw [this]; exact h.2.1, by rw [this]; exact h.2.2⟩
theorem copyT_put {L : List F} {g n c bx k : Nat} {f : F} {w w1 : World} (h : CopyC g bx k f w1 ∧ CopyT L g n c bx k f w w1) :
    CopyC g bx k f (((w1.setCell ⟨g, k * 3, none⟩ (.string f.name)).setCell ⟨g, k * 3 + 1, none⟩ (.string f.kept)).setCell ⟨g, k * 3 + 2, none⟩ (.string f.loose)) ∧
      CopyT L g n c bx k f w (((w1.setCell ⟨g, k * 3, none⟩ (.string f.name)).setCell ⟨g, k * 3 + 1, none⟩ (.string f.kept)).setCell ⟨g, k * 3 + 2, none⟩ (.string f.loose)) := by
  obtain ⟨⟨b0, b1, b2, _⟩, h1, h2, h3, h4, h5, h6, h7, hk, hf⟩ := h
  have hp := h1.put3 hk f
  rw [hf, set_self hk, ← hf] at hp
  have hBg := h1.len.2.2.2.1
  have hb : FCell w1 bx 0 f := ⟨b0, b1, b2⟩
  refine copyC_of (((hb.far (p := ⟨g, k * 3, none⟩) (by show g ≠ bx; omega) _).far (p := ⟨g, k * 3 + 1, none⟩) (by show g ≠ bx; omega) _).far (p := ⟨g, k * 3 + 2, none⟩) (by show g ≠ bx; omega) _) ?_
  refine ⟨hp, ((Below.setCell (Below.setCell (Below.setCell h2 (p := ⟨g, k * 3, none⟩) (by show w.heap.size ≤ g; omega) _) (p := ⟨g, k * 3 + 1, none⟩) (by show w.heap.size ≤ g; omega) _) (p := ⟨g, k * 3 + 2, none⟩) (by show w.heap.size ≤ g; omega) _)), h3, ?_, h5, ?_, ?_, hk, hf⟩
  · simpa [World.setCell] using h4
  · rw [World.cell?_setCell_other _ _ _ _ (fun e => by injection e; omega), World.cell?_setCell_other _ _ _ _ (fun e => by injection e; omega), World.cell?_setCell_other _ _ _ _ (fun e => by injection e; omega)]
    exact h6
  · rw [World.frozen?_setCell, World.frozen?_setCell, World.frozen?_setCell]
    exact h7
set_option maxRecDepth 100000 in
set_option maxHeartbeats 1000000 in
theorem copy_any (v : Value) (L : List F) (w : World) (hv : FV w v L) (hf : Fit L) (hlen : L.length * 48 ≤ 140737488355328) :
    Calls Tryz.prog 64 #[.agg #[v]] w fun e w' => RetDisk L w e w' := by
  obtain ⟨A, c, hva, _⟩ := id hv
  have HV := Lib.hid hv
  have HFit := Lib.hid hf
  subst hva
  clear hv hf
  have HC := Lib.hid (fun (w1 : World) (g : Gr w w1) => sclone_any _ L w1 (HV.out.gr g) hlen)
  obtain ⟨n, hn⟩ : ∃ n, n = L.length := ⟨_, rfl⟩
  have HN := Lib.hid hn
  rw [← hn] at HC HV
  rw [← hn]
  clear hn
  go_enter Tryz.func64, Tryz.ntmps64
  go_wp2_with fail
  refine (HC.out _ ((gr_box w _).alloc _)).mono ?_
  rintro e w1 ⟨v1, rfl, hown, g1⟩
  have G1 : Gr w w1 := ((gr_box w _).alloc _).trans g1
  have c1 : w1.cell? ⟨w.heap.size + 1, 0, none⟩ = some (.slice none 0 0) := g1.cell (by simp)
  have f1 : w1.frozen? ⟨w.heap.size + 1, 0, none⟩ = false := g1.frozen (by simp) (by simp)
  have hB : w.heap.size + 1 < w1.heap.size := by have := g1.size; simp at this; omega
  obtain ⟨A1, k1, hv1, hk1, hk2⟩ := hown.form
  rw [← HN.out] at hv1 hk1
  subst hv1
  have HO : Hid (FO w1 (w.heap.size + 1 + 1) (.slice A1 n k1) L) := Lib.hid (hown.le (by simp))
  clear hown g1
  go_wp2_with fail
  go_loopw [11] (fun i wr => CopyRel L (.slice A1 n k1) w i wr) (fun i _ => n - (intOf i).toNat)
  case atStart => exact ⟨0, Nat.zero_le _, rfl, HO.out, G1, hB, c1, f1⟩
  case round =>
    obtain ⟨k, hk, rfl, hown, hgr, hBr, hc1, hf1⟩ := hrel
    rw [← HN.out] at hk
    have HOW := Lib.hid hown
    clear hown G1 c1 f1 HO hB
    by_cases hlt : k < n
    · have hkL : k < L.length := by rw [← HN.out]; exact hlt
      obtain ⟨g, cc, hvv⟩ := HOW.out.addr hkL
      injection hvv with h1 h2 h3
      subst h1 h3
      clear h2
      have hgl := HOW.out.len.2.2.2.2
      obtain ⟨cc0, cc1, cc2⟩ := HOW.out.at_ hkL
      have hfit := HFit.out _ (List.getElem_mem hkL)
      unfold FitF F.size at hfit
      have hs0 := hfit.1
      have hs1 : L[k].kept.size ≤ 281474976710656 := by omega
      have hs2 : L[k].loose.size ≤ 281474976710656 := by omega
      obtain ⟨f, hfe⟩ : ∃ f, f = L[k] := ⟨_, rfl⟩
      rw [← hfe] at cc0 cc1 cc2 hs0 hs1 hs2
      have HK0 := Lib.hid (clone_any f.name hs0)
      have HK1 := Lib.hid (clone_any f.kept hs1)
      have HK2 := Lib.hid (clone_any f.loose hs2)
      have HS := Lib.hid (copyC_of (fbox wr f) (show CopyT L g n k1 wr.heap.size k f w _ from ⟨HOW.out.gr (gr_box wr _), hgr.alloc _, hgl, by simp, hBr, (gr_box wr _).cell hc1, (gr_box wr _).frozen hBr hf1, hkL, hfe⟩))
      clear hfit hs0 hs1 hs2 hfe
      go_wp2_with fail
      obtain ⟨W3, hW3⟩ : ∃ W3, W3 = wr.alloc (.cells #[.string f.name, .string f.kept, .string f.loose] 63) := ⟨_, rfl⟩
      rw [← hW3] at HS ⊢
      clear hW3 cc0 cc1 cc2 hc1 hf1
      obtain ⟨bx, hbx⟩ : ∃ b, b = wr.heap.size := ⟨_, rfl⟩
      rw [← hbx] at HS hgl hBr ⊢
      have HBX := Lib.hid hbx
      clear hbx
      go_region_held3 (fun w' => CopyC g bx k f w' ∧ CopyT L g n k1 bx k f w w')
        (first
          | exact HS.out
          | exact drewCp HS.out
          | (refine keepCp ?_ hb; assumption)
          | (refine copyT_put ?_; assumption))
        (first
          | (go_at_call 66; with_reducible refine (HK0.out _).mono ?_; rintro e w4 ⟨rfl, hb⟩)
          | (go_at_call 66; with_reducible refine (HK1.out _).mono ?_; rintro e w5 ⟨rfl, hb⟩)
          | (go_at_call 66; with_reducible refine (HK2.out _).mono ?_; rintro e w6 ⟨rfl, hb⟩))
      have hT := ‹CopyC g bx k f (World.setCell _ _ _) ∧ CopyT L g n k1 bx k f w (World.setCell _ _ _)›.2
      have HT := Lib.hid hT
      clear hT
      clear ‹CopyC g bx k f (World.setCell _ _ _) ∧ CopyT L g n k1 bx k f w (World.setCell _ _ _)›
      go_wp2
      go_roundw
      case rel => exact ⟨k + 1, by rw [← HN.out]; omega, by go_num, HT.out.1, HT.out.2.1, by have := HT.out.2.2.2.1; omega, HT.out.2.2.2.2.2.1, HT.out.2.2.2.2.2.2.1⟩
      case measure => simp [intOf]; omega
    · go_wp2
      refine bodyPost_ret (v := .agg #[.slice A1 n k1]) (by simp [results, Tryz.results64, go_sem, hc1]) rfl ⟨_, rfl, ?_, ?_⟩
      · exact own_le (ownsRow_setCell_below HOW.out (a := ⟨w.heap.size + 1, 0, none⟩) (by show w.heap.size + 1 < _; omega) _) (by omega)
      · exact Below.setCell hgr (show w.heap.size ≤ w.heap.size + 1 by omega) _
end Go.Proofs.YtccjkfccklfjkaaGreatDoor
