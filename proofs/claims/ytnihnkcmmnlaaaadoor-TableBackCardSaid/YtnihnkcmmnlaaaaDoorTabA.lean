/- Pairs as they are read: a slice of pairs; walks: comparing two lists of pairs, the document's. -/
import Derived.Test.YtnihnkcmmnlaaaaDoorBase
import Derived.Test.YtnihnkcmmnlaaaaDoorStr
import Derived.Test.YtnihnkcmmnlaaaaDoorSlc
import Derived.Test.YtnihnkcmmnlaaaaDoorRowsG
import Derived.BigQuiet
import Derived.Deep.QuietTactic
import Derived.WalkSpells
import Derived.WalkLawsBesides
import Derived.Outline
import Derived.ChangeKeysEq
import Derived.Laws.StructEq
namespace Go.Proofs.YtnihnkcmmnlaaaaDoor
open Go.RowKit

structure PR where
  key : ByteArray
  val : ByteArray
/-- The pair f lies at this place. -/
def PCell (w : World) (b off : Nat) (f : PR) : Prop :=
  w.cell? ⟨b, off, none⟩ = some (.string f.key) ∧ w.cell? ⟨b, off + 1, none⟩ = some (.string f.val)
/-- The slice value v reads as the pairs L. -/
def PV (w : World) (v : Value) (L : List PR) : Prop :=
  ∃ A c, v = .slice A L.length c ∧ L.length ≤ c ∧ (c ≤ maxLen ∧ (A = Option.none → c = 0)) ∧ ∀ j (hj : j < L.length), ∃ b off, A = some ⟨b, off, none⟩ ∧ PCell w b (off + j * 2) L[j]
theorem PCell.gr {w w' : World} {b off : Nat} {f : PR} (h : PCell w b off f) (g : Gr w w') : PCell w' b off f := ⟨g.cell h.1, g.cell h.2⟩
theorem PV.gr {w w' : World} {v : Value} {L : List PR} (h : PV w v L) (g : Gr w w') : PV w' v L := by
  obtain ⟨A, c, hv, h1, h2, h3⟩ := h
  refine ⟨A, c, hv, h1, h2, fun j hj => ?_⟩
  obtain ⟨b, off, ha, hc⟩ := h3 j hj
  exact ⟨b, off, ha, hc.gr g⟩
theorem PV.nil (w : World) : PV w (.slice none 0 0) [] := ⟨none, 0, rfl, Nat.le_refl _, ⟨Nat.zero_le _, fun _ => rfl⟩, fun j hj => absurd hj (by simp)⟩
theorem pv_form {w : World} {v : Value} {L : List PR} (h : PV w v L) : ∃ A c, v = .slice A L.length c := by
  obtain ⟨A, c, hv, _⟩ := h
  exact ⟨A, c, hv⟩
def pcell (f : PR) : List Value := [.string f.key, .string f.val]
def pcells (L : List PR) : List Value := L.flatMap pcell
theorem pcell_len (f : PR) : (pcell f).length = 2 := rfl
theorem pcells_len (L : List PR) : (pcells L).length = L.length * 2 := rows_len pcell 2 pcell_len L
theorem pcells_one (L : List PR) : ∀ u ∈ pcells L, u.oneCell' = true := by
  intro u hu
  obtain ⟨f, _, hf⟩ := List.mem_flatMap.1 hu
  unfold pcell at hf
  simp only [List.mem_cons, List.not_mem_nil, or_false] at hf
  rcases hf with rfl | rfl <;> rfl
theorem PV.sl {w : World} {v : Value} {L : List PR} (h : PV w v L) : SL w 2 v L.length (pcells L) := by
  obtain ⟨A, c, hv, h1, h2, h3⟩ := h
  refine ⟨A, c, hv, h1, h2, pcells_len L, fun j u hj => ?_⟩
  obtain ⟨q, r, hq, hr, rfl, hu⟩ := rows_of pcell 2 pcell_len (by decide) L j u hj
  obtain ⟨b, off, ha, c0, c1⟩ := h3 q hq
  refine ⟨b, off, ha, ?_⟩
  rw [← Nat.add_assoc]
  match r, hr with
  | 0, _ => injection hu with hu; rw [← hu]; exact c0
  | 1, _ => injection hu with hu; rw [← hu]; exact c1
theorem PV.of_sl {w : World} {v : Value} {L : List PR} {n : Nat} (h : SL w 2 v n (pcells L)) : PV w v L := by
  obtain ⟨A, c, hv, h1, ⟨h2, h2'⟩, h3, h4⟩ := h
  have hn : L.length = n := by
    rw [pcells_len] at h3
    omega
  subst hn
  refine ⟨A, c, hv, h1, ⟨h2, h2'⟩, fun j hj => ?_⟩
  have at_ : ∀ r, r < 2 → (pcells L)[j * 2 + r]? = (pcell L[j])[r]? := fun r hr => rows_at pcell 2 pcell_len L j r hj hr
  obtain ⟨b, off, ha, c0⟩ := h4 (j * 2 + 0) _ (at_ 0 (by decide))
  obtain ⟨b', off', ha', c1⟩ := h4 (j * 2 + 1) _ (at_ 1 (by decide))
  rw [ha] at ha'
  injection ha' with ha'
  injection ha' with e1 e2
  subst e1 e2
  refine ⟨b, off, ha, c0, ?_⟩
  rw [Nat.add_assoc]
  exact c1
/-- The call owns the slice v from block B on: it reads as these pairs. -/
def PO (w : World) (B : Nat) (v : Value) (L : List PR) : Prop := w.ownsRow B 25 2 v L.length (pcells L)
theorem PO.gr {w w' : World} {B : Nat} {v : Value} {L : List PR} (h : PO w B v L) (g : Gr w w') : PO w' B v L := own_gr h g
theorem PO.le {w : World} {B B' : Nat} {v : Value} {L : List PR} (h : PO w B v L) (hb : B' ≤ B) : PO w B' v L := own_le h hb
theorem PO.nil (w : World) (B : Nat) : PO w B (.slice none 0 0) [] := World.ownsRow_nil w B _ _
theorem PO.pv {w : World} {B : Nat} {v : Value} {L : List PR} (h : PO w B v L) : PV w v L := PV.of_sl (own_sl h)
theorem infoPair : (Tryd.prog.info? 25).map (fun i => (i.zero, i.size, i.bytes)) = some (some (.agg #[.string ⟨#[]⟩, .string ⟨#[]⟩]), 2, 32) := by kernel_rfl
def pvs (f : PR) : Array Value := #[.string f.key, .string f.val]
def eqPB (f g : PR) : Bool := eqS f.key g.key && eqS f.val g.val
theorem eqPB_iff {f g : PR} : eqPB f g = true ↔ f = g := by
  unfold eqPB
  rw [Bool.and_eq_true, eqS_iff, eqS_iff]
  refine ⟨fun ⟨h1, h2⟩ => ?_, fun h => by subst h; exact ⟨rfl, rfl⟩⟩
  cases f; cases g
  simp_all
theorem fieldsPair : ∃ f0 f1 : Field, Tryd.prog.fieldsOf 25 = #[f0, f1] ∧ f0.name ≠ "_" ∧ f1.name ≠ "_" ∧ f0.type = 9 ∧ f1.type = 9 ∧ f0.offset = 0 ∧ f1.offset = 1 := by
  refine ⟨(Tryd.prog.fieldsOf 25)[0]'(by decide +kernel), (Tryd.prog.fieldsOf 25)[1]'(by decide +kernel), by kernel_rfl, by decide +kernel, by decide +kernel, by kernel_rfl, by kernel_rfl, by kernel_rfl, by kernel_rfl⟩
theorem part_p (f : PR) (w : World) : (part 9 (pvs f) 0).run Tryd.prog w = .ok (.string f.key) w ∧ (part 9 (pvs f) 1).run Tryd.prog w = .ok (.string f.val) w := by
  refine ⟨?_, ?_⟩ <;> (show _ = _; kernel_rfl)
theorem equal_p (f g : PR) (w : World) : (Op.equalIn 10000 25 (.agg (pvs f)) (.agg (pvs g))).run Tryd.prog w = .ok (eqPB f g) w := by
  obtain ⟨f0, f1, hf, n0, n1, t0, t1, o0, o1⟩ := fieldsPair
  obtain ⟨p0, p1⟩ := part_p f w
  obtain ⟨q0, q1⟩ := part_p g w
  rw [run_equalIn_struct w 9999 _ _ _ (by kernel_rfl) (by kernel_rfl), hf]
  simp only [Op.eqFields, n0, n1, t0, t1, o0, o1, if_true, ne_eq, not_false_eq_true, Sem.run_bind, p0, p1, q0, q1, Result.andThen_ok, run_equalIn_string w 9998 9 _ _ Tryd.underlying9, Sem.run_ite, Sem.run_pure]
  unfold eqPB eqS
  cases (f.key.toList == g.key.toList) <;> cases (f.val.toList == g.val.toList) <;> simp

def PSameRel (La Lb : List PR) (W : World) (i : Value) (wr : World) : Prop :=
  ∃ k m : Nat, k ≤ La.length ∧ i = .int .i64 k ∧ wr = W.drewN m ∧ ∀ j (h1 : j < La.length) (h2 : j < Lb.length), j < k → La[j] = Lb[j]
def psameB : List PR → List PR → Bool
  | [], [] => true
  | f :: a, g :: b => eqPB f g && psameB a b
  | _, _ => false
theorem psameB_iff {La Lb : List PR} : psameB La Lb = true ↔ La = Lb := by
  induction La generalizing Lb with
  | nil => cases Lb <;> simp [psameB]
  | cons f a ih =>
    cases Lb with
    | nil => simp [psameB]
    | cons g b => simp [psameB, eqPB_iff, ih]
theorem psameB_yes {La Lb : List PR} (h : La = Lb) : psameB La Lb = true := psameB_iff.2 h
theorem psameB_no {La Lb : List PR} (h : La ≠ Lb) : psameB La Lb = false := by
  rw [Bool.eq_false_iff]
  exact fun e => h (psameB_iff.1 e)

set_option maxRecDepth 100000 in
set_option maxHeartbeats 1000000 in
theorem psame_any (va vb : Value) (La Lb : List PR) (w : World) (ha : PV w va La) (hb : PV w vb Lb) :
    Calls Tryd.prog 12 #[va, vb] w fun e w' => e = .returned (.bool (psameB La Lb)) ∧ Gr w w' := by
  obtain ⟨A, ca, rfl, la1, ⟨la2, _⟩, la3⟩ := ha
  obtain ⟨B, cb, rfl, lb1, ⟨lb2, _⟩, lb3⟩ := hb
  unfold maxLen at la2 lb2
  obtain ⟨n, hn⟩ : ∃ n, n = La.length := ⟨_, rfl⟩
  by_cases hl : La.length = Lb.length
  · have HL := Lib.hid hl
    rw [← hl, ← hn] at lb1
    rw [← hl, ← hn]
    rw [← hn] at la1
    have HN := Lib.hid hn
    have ht : ((n : Int) != (n : Int)) = false := by simp
    have HA := Lib.hid la3
    have HB := Lib.hid lb3
    clear hl hn la3 lb3
    go_enter Tryd.func12, Tryd.ntmps12
    go_wp2_with fail
    go_loopw [5] (fun i wr => PSameRel La Lb w i wr) (fun i _ => n - (intOf i).toNat)
    case atStart => exact ⟨0, 0, Nat.zero_le _, rfl, rfl, fun j _ _ h => absurd h (Nat.not_lt_zero _)⟩
    case round =>
      obtain ⟨k, m, hk, rfl, rfl, hkk⟩ := hrel
      rw [← HN.out] at hk
      have HK := Lib.hid hkk
      clear hkk
      by_cases hlt : k < n
      · have hkA : k < La.length := by rw [← HN.out]; exact hlt
        have hkB : k < Lb.length := by rw [← HL.out, ← HN.out]; exact hlt
        obtain ⟨b, off, rfl, ha0, ha1⟩ := HA.out k hkA
        obtain ⟨b', off', rfl, hb0, hb1⟩ := HB.out k hkB
        obtain ⟨f, hf⟩ : ∃ f, f = La[k] := ⟨_, rfl⟩
        obtain ⟨g, hg⟩ : ∃ g, g = Lb[k] := ⟨_, rfl⟩
        rw [← hf] at ha0 ha1
        rw [← hg] at hb0 hb1
        have a0 := ha0
        have a1 := ha1
        have c0 := hb0
        have c1 := hb1
        clear ha0 ha1 hb0 hb1
        have he := fun w => equal_p f g w
        unfold pvs at he
        rcases hq : eqPB f g with _ | _
        · have hne : La ≠ Lb := fun h => by
            subst h
            rw [hf, hg] at hq
            rw [eqPB_iff.2 rfl] at hq
            cases hq
          have HF := Lib.hid (psameB_no hne)
          rw [hq] at he
          clear hq hf hg hne hkA hkB
          go_wp2_with fail
          go_quiet (fail)
          go_wp2
          go_ret
          exact ⟨by rw [HF.out]; rfl, by rw [World.drewN_drewN]; exact ((Gr.refl _).drewN _)⟩
        · have hst : ∀ j (h1 : j < La.length) (h2 : j < Lb.length), j < k + 1 → La[j] = Lb[j] := by
            intro j h1 h2 hj
            by_cases e : j = k
            · subst e; rw [← hf, ← hg]; exact eqPB_iff.1 hq
            · exact HK.out j h1 h2 (by omega)
          have HS := Lib.hid hst
          rw [hq] at he
          clear hq hf hg hst hkA hkB
          go_wp2_with fail
          go_quiet (fail)
          go_wp2
          go_roundw
          case rel => exact ⟨k + 1, _, by rw [← HN.out]; omega, by go_num, rfl, HS.out⟩
          case measure => simp [intOf]; omega
      · have hall : La = Lb := List.ext_getElem HL.out fun j h1 h2 => HK.out j h1 h2 (by rw [← HN.out] at h1; omega)
        have HF := Lib.hid (psameB_yes hall)
        clear hall
        go_wp2_with fail
        go_ret
        exact ⟨by rw [HF.out]; rfl, (Gr.refl _).drewN _⟩
  · have HF := Lib.hid (psameB_no (La := La) (Lb := Lb) (fun h => hl (by rw [h])))
    have ht : ((La.length : Int) != (Lb.length : Int)) = true := by rw [bne_iff_ne]; omega
    obtain ⟨m, hm⟩ : ∃ m, m = Lb.length := ⟨_, rfl⟩
    rw [← hm] at ht lb1 ⊢
    rw [← hn] at ht la1 ⊢
    clear hl hn hm la3 lb3
    go_enter Tryd.func12, Tryd.ntmps12
    go_wp2_with fail
    go_ret
    exact ⟨by rw [HF.out]; rfl, Gr.refl _⟩
end Go.Proofs.YtnihnkcmmnlaaaaDoor
