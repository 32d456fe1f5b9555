/- Pairs as they are read: a slice of pairs; walks: comparing two lists of pairs, the document's. Walks: names of a store's logs and tables, the document's; changes as they are read. Walks: the program's names of logs and tables. Changes as they are read: a slice of changes; append onto a row of the call's own. Plain mathematics: strings are in one order. It names no program. Walks: the document's sum, bit by bit; frames. -/
import Derived.Test.YtlnhbndghnkfmaaGreatDoorZm01
import Derived.Test.YtlnhbndghnkfmaaGreatDoorZm03
import Derived.Test.YtlnhbndghnkfmaaGreatDoorZm04
import Derived.BigQuiet
import Derived.Deep.QuietTactic
import Derived.WalkSpells
import Derived.WalkLawsBesides
import Derived.Outline
import Derived.ChangeKeysEq
import Derived.Laws.StructEq
import Derived.Lib.SlBytesConst
import Derived.BigFrame
import Derived.Lib.Strings
namespace Go.Proofs.YtlnhbndghnkfmaaGreatDoor
open Go.RowKit

structure PR where
  key : ByteArray
  val : ByteArray
/-- The pair f lies at this place. -/
def PCell (w : World) (b off : Nat) (f : PR) : Prop :=
  w.cell? ⟨b, off, none⟩ = some (.string f.key) ∧ w.cell? ⟨b, off + 1, none⟩ = some (.string f.val)
/-- The slice value v reads as the pairs L. -/
def PV (w : World) (v : Value) (L : List PR) : Prop :=
  ∃ A c, v = .slice A L.length c ∧ L.length ≤ c ∧ (c ≤ maxLen ∧ (A = Option.none → c = 0)) ∧ ∀ j (hj : j < L.length), ∃ b off, A = some ⟨b, off, none⟩ ∧ PCell w b (off + j * 2) L[j]
theorem PCell.gr {w w' : World} {b off : Nat} {f : PR} (h : PCell w b off f) (g : Gr w w') : PCell w' b off f := ⟨g.cell h.1, g.cell h.2⟩
theorem PV.gr {w w' : World} {v : Value} {L : List PR} (h : PV w v L) (g : Gr w w') : PV w' v L := by
  obtain ⟨A, c, hv, h1, h2, h3⟩ := h
  refine ⟨A, c, hv, h1, h2, fun j hj => ?_⟩
  obtain ⟨b, off, ha, hc⟩ := h3 j hj
  exact ⟨b, off, ha, hc.gr g⟩
theorem PV.nil (w : World) : PV w (.slice none 0 0) [] := ⟨none, 0, rfl, Nat.le_refl _, ⟨Nat.zero_le _, fun _ => rfl⟩, fun j hj => absurd hj (by simp)⟩
theorem pv_form {w : World} {v : Value} {L : List PR} (h : PV w v L) : ∃ A c, v = .slice A L.length c := by
  obtain ⟨A, c, hv, _⟩ := h
  exact ⟨A, c, hv⟩
def pcell (f : PR) : List Value := [.string f.key, .string f.val]
def pcells (L : List PR) : List Value := L.flatMap pcell
theorem pcell_len (f : PR) : (pcell f).length = 2 := rfl
theorem pcells_len (L : List PR) : (pcells L).length = L.length * 2 := rows_len pcell 2 pcell_len L
theorem pcells_one (L : List PR) : ∀ u ∈ pcells L, u.oneCell' = true := by
  intro u hu
  obtain ⟨f, _, hf⟩ := List.mem_flatMap.1 hu
  unfold pcell at hf
  simp only [List.mem_cons, List.not_mem_nil, or_false] at hf
  rcases hf with rfl | rfl <;> rfl
theorem PV.sl {w : World} {v : Value} {L : List PR} (h : PV w v L) : SL w 2 v L.length (pcells L) := by
  obtain ⟨A, c, hv, h1, h2, h3⟩ := h
  refine ⟨A, c, hv, h1, h2, pcells_len L, fun j u hj => ?_⟩
  obtain ⟨q, r, hq, hr, rfl, hu⟩ := rows_of pcell 2 pcell_len (by decide) L j u hj
  obtain ⟨b, off, ha, c0, c1⟩ := h3 q hq
  refine ⟨b, off, ha, ?_⟩
  rw [← Nat.add_assoc]
  match r, hr with
  | 0, _ => injection hu with hu; rw [← hu]; exact c0
  | 1, _ => injection hu with hu; rw [← hu]; exact c1
theorem PV.of_sl {w : World} {v : Value} {L : List PR} {n : Nat} (h : SL w 2 v n (pcells L)) : PV w v L := by
  obtain ⟨A, c, hv, h1, ⟨h2, h2'⟩, h3, h4⟩ := h
  have hn : L.length = n := by
    rw [pcells_len] at h3
    omega
  subst hn
  refine ⟨A, c, hv, h1, ⟨h2, h2'⟩, fun j hj => ?_⟩
  have at_ : ∀ r, r < 2 → (pcells L)[j * 2 + r]? = (pcell L[j])[r]? := fun r hr => rows_at pcell 2 pcell_len L j r hj hr
  obtain ⟨b, off, ha, c0⟩ := h4 (j * 2 + 0) _ (at_ 0 (by decide))
  obtain ⟨b', off', ha', c1⟩ := h4 (j * 2 + 1) _ (at_ 1 (by decide))
  rw [ha] at ha'
  injection ha' with ha'
  injection ha' with e1 e2
  subst e1 e2
  refine ⟨b, off, ha, c0, ?_⟩
  rw [Nat.add_assoc]
  exact c1
/-- The call owns the slice v from block B on: it reads as these pairs. -/
def PO (w : World) (B : Nat) (v : Value) (L : List PR) : Prop := w.ownsRow B 66 2 v L.length (pcells L)
theorem PO.gr {w w' : World} {B : Nat} {v : Value} {L : List PR} (h : PO w B v L) (g : Gr w w') : PO w' B v L := own_gr h g
theorem PO.le {w : World} {B B' : Nat} {v : Value} {L : List PR} (h : PO w B v L) (hb : B' ≤ B) : PO w B' v L := own_le h hb
theorem PO.nil (w : World) (B : Nat) : PO w B (.slice none 0 0) [] := World.ownsRow_nil w B _ _
theorem PO.pv {w : World} {B : Nat} {v : Value} {L : List PR} (h : PO w B v L) : PV w v L := PV.of_sl (own_sl h)
theorem infoPair : (Tryz.prog.info? 66).map (fun i => (i.zero, i.size, i.bytes)) = some (some (.agg #[.string ⟨#[]⟩, .string ⟨#[]⟩]), 2, 32) := by kernel_rfl
def pvs (f : PR) : Array Value := #[.string f.key, .string f.val]
def eqPB (f g : PR) : Bool := eqS f.key g.key && eqS f.val g.val
theorem eqPB_iff {f g : PR} : eqPB f g = true ↔ f = g := by
  unfold eqPB
  rw [Bool.and_eq_true, eqS_iff, eqS_iff]
  refine ⟨fun ⟨h1, h2⟩ => ?_, fun h => by subst h; exact ⟨rfl, rfl⟩⟩
  cases f; cases g
  simp_all
theorem fieldsPair : ∃ f0 f1 : Field, Tryz.prog.fieldsOf 66 = #[f0, f1] ∧ f0.name ≠ "_" ∧ f1.name ≠ "_" ∧ f0.type = 9 ∧ f1.type = 9 ∧ f0.offset = 0 ∧ f1.offset = 1 := by
  refine ⟨(Tryz.prog.fieldsOf 66)[0]'(by decide +kernel), (Tryz.prog.fieldsOf 66)[1]'(by decide +kernel), by kernel_rfl, by decide +kernel, by decide +kernel, by kernel_rfl, by kernel_rfl, by kernel_rfl, by kernel_rfl⟩
theorem part_p (f : PR) (w : World) : (part 9 (pvs f) 0).run Tryz.prog w = .ok (.string f.key) w ∧ (part 9 (pvs f) 1).run Tryz.prog w = .ok (.string f.val) w := by
  refine ⟨?_, ?_⟩ <;> (show _ = _; kernel_rfl)
theorem equal_p (f g : PR) (w : World) : (Op.equalIn 10000 66 (.agg (pvs f)) (.agg (pvs g))).run Tryz.prog w = .ok (eqPB f g) w := by
  obtain ⟨f0, f1, hf, n0, n1, t0, t1, o0, o1⟩ := fieldsPair
  obtain ⟨p0, p1⟩ := part_p f w
  obtain ⟨q0, q1⟩ := part_p g w
  rw [run_equalIn_struct w 9999 _ _ _ (by kernel_rfl) (by kernel_rfl), hf]
  simp only [Op.eqFields, n0, n1, t0, t1, o0, o1, if_true, ne_eq, not_false_eq_true, Sem.run_bind, p0, p1, q0, q1, Result.andThen_ok, run_equalIn_string w 9998 9 _ _ Tryz.underlying9, Sem.run_ite, Sem.run_pure]
  unfold eqPB eqS
  cases (f.key.toList == g.key.toList) <;> cases (f.val.toList == g.val.toList) <;> simp

def PSameRel (La Lb : List PR) (W : World) (i : Value) (wr : World) : Prop :=
  ∃ k m : Nat, k ≤ La.length ∧ i = .int .i64 k ∧ wr = W.drewN m ∧ ∀ j (h1 : j < La.length) (h2 : j < Lb.length), j < k → La[j] = Lb[j]
def psameB : List PR → List PR → Bool
  | [], [] => true
  | f :: a, g :: b => eqPB f g && psameB a b
  | _, _ => false
theorem psameB_iff {La Lb : List PR} : psameB La Lb = true ↔ La = Lb := by
  induction La generalizing Lb with
  | nil => cases Lb <;> simp [psameB]
  | cons f a ih =>
    cases Lb with
    | nil => simp [psameB]
    | cons g b => simp [psameB, eqPB_iff, ih]
theorem psameB_yes {La Lb : List PR} (h : La = Lb) : psameB La Lb = true := psameB_iff.2 h
theorem psameB_no {La Lb : List PR} (h : La ≠ Lb) : psameB La Lb = false := by
  rw [Bool.eq_false_iff]
  exact fun e => h (psameB_iff.1 e)

set_option maxRecDepth 100000 in
set_option maxHeartbeats 1000000 in
theorem psame_any (va vb : Value) (La Lb : List PR) (w : World) (ha : PV w va La) (hb : PV w vb Lb) :
    Calls Tryz.prog 23 #[va, vb] w fun e w' => e = .returned (.bool (psameB La Lb)) ∧ Gr w w' := by
  obtain ⟨A, ca, rfl, la1, ⟨la2, _⟩, la3⟩ := ha
  obtain ⟨B, cb, rfl, lb1, ⟨lb2, _⟩, lb3⟩ := hb
  unfold maxLen at la2 lb2
  obtain ⟨n, hn⟩ : ∃ n, n = La.length := ⟨_, rfl⟩
  by_cases hl : La.length = Lb.length
  · have HL := Lib.hid hl
    rw [← hl, ← hn] at lb1
    rw [← hl, ← hn]
    rw [← hn] at la1
    have HN := Lib.hid hn
    have ht : ((n : Int) != (n : Int)) = false := by simp
    have HA := Lib.hid la3
    have HB := Lib.hid lb3
    clear hl hn la3 lb3
    go_enter Tryz.func23, Tryz.ntmps23
    go_wp2_with fail
    go_loopw [5] (fun i wr => PSameRel La Lb w i wr) (fun i _ => n - (intOf i).toNat)
    case atStart => exact ⟨0, 0, Nat.zero_le _, rfl, rfl, fun j _ _ h => absurd h (Nat.not_lt_zero _)⟩
    case round =>
      obtain ⟨k, m, hk, rfl, rfl, hkk⟩ := hrel
      rw [← HN.out] at hk
      have HK := Lib.hid hkk
      clear hkk
      by_cases hlt : k < n
      · have hkA : k < La.length := by rw [← HN.out]; exact hlt
        have hkB : k < Lb.length := by rw [← HL.out, ← HN.out]; exact hlt
        obtain ⟨b, off, rfl, ha0, ha1⟩ := HA.out k hkA
        obtain ⟨b', off', rfl, hb0, hb1⟩ := HB.out k hkB
        obtain ⟨f, hf⟩ : ∃ f, f = La[k] := ⟨_, rfl⟩
        obtain ⟨g, hg⟩ : ∃ g, g = Lb[k] := ⟨_, rfl⟩
        rw [← hf] at ha0 ha1
        rw [← hg] at hb0 hb1
        have a0 := ha0
        have a1 := ha1
        have c0 := hb0
        have c1 := hb1
        clear ha0 ha1 hb0 hb1
        have he := fun w => equal_p f g w
        unfold pvs at he
        rcases hq : eqPB f g with _ | _
        · have hne : La ≠ Lb := fun h => by
            subst h
            rw [hf, hg] at hq
            rw [eqPB_iff.2 rfl] at hq
            cases hq
          have HF := Lib.hid (psameB_no hne)
          rw [hq] at he
          clear hq hf hg hne hkA hkB
          go_wp2_with fail
          go_quiet (fail)
          go_wp2
          go_ret
          exact ⟨by rw [HF.out]; rfl, by rw [World.drewN_drewN]; exact ((Gr.refl _).drewN _)⟩
        · have hst : ∀ j (h1 : j < La.length) (h2 : j < Lb.length), j < k + 1 → La[j] = Lb[j] := by
            intro j h1 h2 hj
            by_cases e : j = k
            · subst e; rw [← hf, ← hg]; exact eqPB_iff.1 hq
            · exact HK.out j h1 h2 (by omega)
          have HS := Lib.hid hst
          rw [hq] at he
          clear hq hf hg hst hkA hkB
          go_wp2_with fail
          go_quiet (fail)
          go_wp2
          go_roundw
          case rel => exact ⟨k + 1, _, by rw [← HN.out]; omega, by go_num, rfl, HS.out⟩
          case measure => simp [intOf]; omega
      · have hall : La = Lb := List.ext_getElem HL.out fun j h1 h2 => HK.out j h1 h2 (by rw [← HN.out] at h1; omega)
        have HF := Lib.hid (psameB_yes hall)
        clear hall
        go_wp2_with fail
        go_ret
        exact ⟨by rw [HF.out]; rfl, (Gr.refl _).drewN _⟩
  · have HF := Lib.hid (psameB_no (La := La) (Lb := Lb) (fun h => hl (by rw [h])))
    have ht : ((La.length : Int) != (Lb.length : Int)) = true := by rw [bne_iff_ne]; omega
    obtain ⟨m, hm⟩ : ∃ m, m = Lb.length := ⟨_, rfl⟩
    rw [← hm] at ht lb1 ⊢
    rw [← hn] at ht la1 ⊢
    clear hl hn hm la3 lb3
    go_enter Tryz.func23, Tryz.ntmps23
    go_wp2_with fail
    go_ret
    exact ⟨by rw [HF.out]; rfl, Gr.refl _⟩
end Go.Proofs.YtlnhbndghnkfmaaGreatDoor
namespace Go.Proofs.YtlnhbndghnkfmaaGreatDoor
open Go.RowKit

/-- The prefix of a generation's log. -/
def logW (n : Nat) : ByteArray := ⟨#[119, UInt8.ofNat (97 + n / 456976 % 26), UInt8.ofNat (97 + n / 17576 % 26), UInt8.ofNat (97 + n / 676 % 26), UInt8.ofNat (97 + n / 26 % 26), UInt8.ofNat (97 + n % 26)]⟩
theorem logW_size (n : Nat) : (logW n).size = 6 := rfl
theorem logW_prefix (n : Nat) : prefixB (logW n) = true := by
  refine prefix_good (by rw [logW_size]; decide) (fun k hk => ?_)
  rw [logW_size] at hk
  have h26 : ∀ q, (UInt8.ofNat (97 + q % 26)).toNat = 97 + q % 26 := fun q => by rw [UInt8.toNat_ofNat', Nat.mod_eq_of_lt (by omega)]
  have hl : ∀ q, lowB (UInt8.ofNat (97 + q % 26)).toNat = true := fun q => by rw [h26]; unfold lowB; exact decide_eq_true (by omega)
  match k, hk with
  | 0, _ => rfl
  | 1, _ => exact hl _
  | 2, _ => exact hl _
  | 3, _ => exact hl _
  | 4, _ => exact hl _
  | 5, _ => exact hl _
def tabP : ByteArray := ⟨#[116]⟩
end Go.Proofs.YtlnhbndghnkfmaaGreatDoor
namespace Go.Proofs.YtlnhbndghnkfmaaGreatDoor
open Go.RowKit

theorem run_conv5 (w : World) (a b c d e : Int) (cap : Nat) (T : TypeId) :
    (convert 121 9 (.slice (some ⟨w.heap.size, 0, none⟩) 5 cap)).run Tryz.prog (w.alloc (.cells #[.int .u8 a, .int .u8 b, .int .u8 c, .int .u8 d, .int .u8 e] T)) =
      .ok (.string (strOfNums [a, b, c, d, e])) (w.alloc (.cells #[.int .u8 a, .int .u8 b, .int .u8 c, .int .u8 d, .int .u8 e] T)) := by
  refine run_convert_bytes_arg _ 121 5 Tryz.underlying121 Tryz.underlying5 _ _ _ _ [a, b, c, d, e] rfl ?_ _ Tryz.underlying9
  intro i hi
  rw [Nat.zero_add, World.cell?_alloc_mark]
  match i, hi with
  | 0, _ => rfl
  | 1, _ => rfl
  | 2, _ => rfl
  | 3, _ => rfl
  | 4, _ => rfl
theorem five_size (a b c d e : Int) : (strOfNums [a, b, c, d, e]).size = 5 := rfl
theorem logs5_of (a b c d e : Nat) (n : Nat) (ha : a = n / 456976 % 26) (hb : b = n / 17576 % 26) (hc : c = n / 676 % 26) (hd : d = n / 26 % 26) (he : e = n % 26) :
    (⟨#[119]⟩ : ByteArray) ++ strOfNums [97 + (a : Int), 97 + (b : Int), 97 + (c : Int), 97 + (d : Int), 97 + (e : Int)] = logW n := by
  subst ha hb hc hd he
  rfl
set_option maxRecDepth 100000 in
set_option maxHeartbeats 2000000 in
theorem logPrefix_any (n : Nat) (hn : n ≤ 9223372036854775807) (w : World) :
    Calls Tryz.prog 74 #[.int .i64 (n : Int)] w fun e w' => e = .returned (.string (logW n)) ∧ Gr w w' := by
  have hcv := fun a b c d e cap => run_conv5 w a b c d e cap 148
  have hz5 := five_size
  have HF := Lib.hid (logs5_of (n / 26 / 26 / 26 / 26 % 26) (n / 26 / 26 / 26 % 26) (n / 26 / 26 % 26) (n / 26 % 26) (n % 26) n (by omega) (by omega) (by omega) (by omega) rfl)
  go_enter Tryz.func74, Tryz.ntmps74
  go_wp2_with fail
  go_rounds 6
  go_ret
  exact ⟨by rw [← HF.out]; rfl, gr_box w _⟩
end Go.Proofs.YtlnhbndghnkfmaaGreatDoor
namespace Go.Proofs.YtlnhbndghnkfmaaGreatDoor
open Go.RowKit

structure CR where
  key : ByteArray
  val : ByteArray
  gone : Bool
/-- The change f lies at this place. -/
def CCell (w : World) (b off : Nat) (f : CR) : Prop :=
  w.cell? ⟨b, off, none⟩ = some (.string f.key) ∧ w.cell? ⟨b, off + 1, none⟩ = some (.string f.val) ∧ w.cell? ⟨b, off + 2, none⟩ = some (.bool f.gone)
/-- The slice value v reads as the changes L. -/
def CV (w : World) (v : Value) (L : List CR) : Prop :=
  ∃ A c, v = .slice A L.length c ∧ L.length ≤ c ∧ (c ≤ maxLen ∧ (A = Option.none → c = 0)) ∧ ∀ j (hj : j < L.length), ∃ b off, A = some ⟨b, off, none⟩ ∧ CCell w b (off + j * 3) L[j]
theorem CCell.gr {w w' : World} {b off : Nat} {f : CR} (h : CCell w b off f) (g : Gr w w') : CCell w' b off f := ⟨g.cell h.1, g.cell h.2.1, g.cell h.2.2⟩
theorem CV.gr {w w' : World} {v : Value} {L : List CR} (h : CV w v L) (g : Gr w w') : CV w' v L := by
  obtain ⟨A, c, hv, h1, h2, h3⟩ := h
  refine ⟨A, c, hv, h1, h2, fun j hj => ?_⟩
  obtain ⟨b, off, ha, hc⟩ := h3 j hj
  exact ⟨b, off, ha, hc.gr g⟩
theorem CV.nil (w : World) : CV w (.slice none 0 0) [] := ⟨none, 0, rfl, Nat.le_refl _, ⟨Nat.zero_le _, fun _ => rfl⟩, fun j hj => absurd hj (by simp)⟩
def ccell (f : CR) : List Value := [.string f.key, .string f.val, .bool f.gone]
def ccells (L : List CR) : List Value := L.flatMap ccell
theorem ccell_len (f : CR) : (ccell f).length = 3 := rfl
theorem ccells_len (L : List CR) : (ccells L).length = L.length * 3 := rows_len ccell 3 ccell_len L
theorem ccells_one (L : List CR) : ∀ u ∈ ccells L, u.oneCell' = true := by
  intro u hu
  obtain ⟨f, _, hf⟩ := List.mem_flatMap.1 hu
  unfold ccell at hf
  simp only [List.mem_cons, List.not_mem_nil, or_false] at hf
  rcases hf with rfl | rfl | rfl <;> rfl
theorem CV.sl {w : World} {v : Value} {L : List CR} (h : CV w v L) : SL w 3 v L.length (ccells L) := by
  obtain ⟨A, c, hv, h1, h2, h3⟩ := h
  refine ⟨A, c, hv, h1, h2, ccells_len L, fun j u hj => ?_⟩
  obtain ⟨q, r, hq, hr, rfl, hu⟩ := rows_of ccell 3 ccell_len (by decide) L j u hj
  obtain ⟨b, off, ha, c0, c1, c2⟩ := h3 q hq
  refine ⟨b, off, ha, ?_⟩
  rw [← Nat.add_assoc]
  match r, hr with
  | 0, _ => injection hu with hu; rw [← hu]; exact c0
  | 1, _ => injection hu with hu; rw [← hu]; exact c1
  | 2, _ => injection hu with hu; rw [← hu]; exact c2
theorem CV.of_sl {w : World} {v : Value} {L : List CR} {n : Nat} (h : SL w 3 v n (ccells L)) : CV w v L := by
  obtain ⟨A, c, hv, h1, ⟨h2, h2'⟩, h3, h4⟩ := h
  have hn : L.length = n := by
    rw [ccells_len] at h3
    omega
  subst hn
  refine ⟨A, c, hv, h1, ⟨h2, h2'⟩, fun j hj => ?_⟩
  have at_ : ∀ r, r < 3 → (ccells L)[j * 3 + r]? = (ccell L[j])[r]? := fun r hr => rows_at ccell 3 ccell_len L j r hj hr
  obtain ⟨b, off, ha, c0⟩ := h4 (j * 3 + 0) _ (at_ 0 (by decide))
  obtain ⟨b', off', ha', c1⟩ := h4 (j * 3 + 1) _ (at_ 1 (by decide))
  obtain ⟨b2, off2, ha2, c2⟩ := h4 (j * 3 + 2) _ (at_ 2 (by decide))
  rw [ha] at ha' ha2
  injection ha' with ha'
  injection ha' with e1 e2
  subst e1 e2
  injection ha2 with ha2
  injection ha2 with e1 e2
  subst e1 e2
  refine ⟨b, off, ha, c0, ?_, ?_⟩
  · rw [Nat.add_assoc]
    exact c1
  · rw [Nat.add_assoc]
    exact c2
/-- The call owns the slice v from block B on: it reads as these changes. -/
def CO (w : World) (B : Nat) (v : Value) (L : List CR) : Prop := w.ownsRow B 70 3 v L.length (ccells L)
theorem CO.gr {w w' : World} {B : Nat} {v : Value} {L : List CR} (h : CO w B v L) (g : Gr w w') : CO w' B v L := own_gr h g
theorem CO.le {w : World} {B B' : Nat} {v : Value} {L : List CR} (h : CO w B v L) (hb : B' ≤ B) : CO w B' v L := own_le h hb
theorem CO.nil (w : World) (B : Nat) : CO w B (.slice none 0 0) [] := World.ownsRow_nil w B _ _
theorem CO.cv {w : World} {B : Nat} {v : Value} {L : List CR} (h : CO w B v L) : CV w v L := CV.of_sl (own_sl h)
theorem infoChange : (Tryz.prog.info? 70).map (fun i => (i.zero, i.size, i.bytes)) = some (some (.agg #[.string ⟨#[]⟩, .string ⟨#[]⟩, .bool false]), 3, 40) := by kernel_rfl

end Go.Proofs.YtlnhbndghnkfmaaGreatDoor
namespace Go.Proofs.YtlnhbndghnkfmaaGreatDoor
open Go.Op

theorem less_irrefl : ∀ a : List UInt8, bytesLess a a = false
  | [] => rfl
  | x :: a => by
    unfold bytesLess
    rw [less_irrefl a, Bool.and_false, Bool.or_false, decide_eq_false_iff_not]
    exact fun h => absurd h (UInt8.lt_irrefl x)
theorem less_trans : ∀ a b c : List UInt8, bytesLess a b = true → bytesLess b c = true → bytesLess a c = true
  | _, [], _, h, _ => by unfold bytesLess at h; cases h
  | _, _ :: _, [], _, h => by unfold bytesLess at h; cases h
  | [], _ :: _, _ :: _, _, _ => rfl
  | x :: a, y :: b, z :: c, h, k => by
    unfold bytesLess at h k ⊢
    simp only [Bool.or_eq_true, Bool.and_eq_true, decide_eq_true_eq, beq_iff_eq] at h k ⊢
    rcases h with h | ⟨rfl, h⟩
    · rcases k with k | ⟨rfl, k⟩
      · exact .inl (UInt8.lt_trans h k)
      · exact .inl h
    · rcases k with k | ⟨rfl, k⟩
      · exact .inl k
      · exact .inr ⟨rfl, less_trans a b c h k⟩
theorem less_total : ∀ a b : List UInt8, bytesLess a b = true ∨ a = b ∨ bytesLess b a = true
  | [], [] => .inr (.inl rfl)
  | [], _ :: _ => .inl rfl
  | _ :: _, [] => .inr (.inr rfl)
  | x :: a, y :: b => by
    unfold bytesLess
    simp only [Bool.or_eq_true, Bool.and_eq_true, decide_eq_true_eq, beq_iff_eq]
    rcases Nat.lt_trichotomy x.toNat y.toNat with h | h | h
    · exact .inl (.inl (UInt8.lt_iff_toNat_lt.2 h))
    · have e : x = y := UInt8.toNat_inj.1 h
      subst e
      rcases less_total a b with k | k | k
      · exact .inl (.inr ⟨rfl, k⟩)
      · exact .inr (.inl (by rw [k]))
      · exact .inr (.inr (.inr ⟨rfl, k⟩))
    · exact .inr (.inr (.inl (UInt8.lt_iff_toNat_lt.2 h)))
theorem lessS_irrefl (x : ByteArray) : lessS x x = false := less_irrefl _
theorem lessS_trans {x y z : ByteArray} (h : lessS x y = true) (k : lessS y z = true) : lessS x z = true := less_trans _ _ _ h k
theorem lessS_total (x y : ByteArray) : lessS x y = true ∨ x = y ∨ lessS y x = true := by
  rcases less_total x.toList y.toList with h | h | h
  · exact .inl h
  · refine .inr (.inl (eqS_iff.1 ?_))
    unfold eqS
    rw [h]
    simp
  · exact .inr (.inr h)
theorem lessS_asymm {x y : ByteArray} (h : lessS x y = true) : lessS y x = false := by
  rw [Bool.eq_false_iff]
  intro k
  have := lessS_trans h k
  rw [lessS_irrefl] at this
  cases this
theorem lessS_ne {x y : ByteArray} (h : lessS x y = true) : x ≠ y := fun e => by rw [e, lessS_irrefl] at h; cases h
/-- 'not at most', as the code asks it. -/
theorem leq_not (x y : ByteArray) : (lessS y x || eqS y x) = !lessS x y := by
  rcases lessS_total x y with h | h | h
  · rw [h, lessS_asymm h, eqS_ne (lessS_ne h).symm]
    rfl
  · subst h
    rw [lessS_irrefl, eqS_self]
    rfl
  · rw [h, lessS_asymm h]
    rfl
end Go.Proofs.YtlnhbndghnkfmaaGreatDoor
namespace Go.Proofs.YtlnhbndghnkfmaaGreatDoor
open Go.RowKit

theorem Halves.gr {w w' : World} (h : Halves w) (g : Gr w w') : Halves w' := fun k hk => g.cell (h k hk)
theorem frameSum_any (a s : ByteArray) (ha : a.size ≤ maxLen) (hs : s.size ≤ maxLen) (w : World) (hH : Halves w) :
    Calls Tryz.prog 169 #[.string a, .string s] w fun e w' => e = .returned (.int .u32 (Crc.sum (a.data.toList ++ s.data.toList) : Nat)) ∧ w = w' := by
  have h1 := sumOn_any Crc.start Crc.start_lt a ha w hH
  have l1 := Crc.sumOn_lt a.data.toList Crc.start_lt
  obtain ⟨m, hm⟩ : ∃ m, m = Crc.sumOn Crc.start a.data.toList := ⟨_, rfl⟩
  rw [← hm] at h1 l1
  have h2 := sumOn_any m l1 s hs w hH
  have l2 := Crc.sumOn_lt s.data.toList l1
  obtain ⟨r, hr⟩ : ∃ r, r = Crc.sumOn m s.data.toList := ⟨_, rfl⟩
  rw [← hr] at h2 l2
  have hn := not_u32 r l2
  have HL := Lib.hid (show Crc.sum (a.data.toList ++ s.data.toList) = Crc.fin r from by rw [hr, hm, ← Crc.sumOn_append]; rfl)
  have H1 := Lib.hid h1
  have H2 := Lib.hid h2
  clear h1 h2 hm hr hH
  go_enter Tryz.func169, Tryz.ntmps169
  go_wp2_with fail
  refine H1.out.mono ?_
  rintro e w1 ⟨rfl, rfl⟩
  go_wp2_with fail
  refine H2.out.mono ?_
  rintro e w1 ⟨rfl, rfl⟩
  go_wp2
  go_ret
  exact ⟨by rw [HL.out]; rfl, rfl⟩

/-- A frame as the document has it. -/
def frameB (s : ByteArray) : ByteArray := bs (be4 s.size) ++ bs (be4 (Crc.sum (be4 s.size ++ s.data.toList))) ++ s
theorem append_size (a b : ByteArray) : (a ++ b).size = a.size + b.size := ByteArray.size_append
theorem append_data (a b : ByteArray) : (a ++ b).data.toList = a.data.toList ++ b.data.toList := by
  rw [ByteArray.data_append, Array.toList_append]
theorem frame_yes (s : ByteArray) (hs : s.size ≤ 65536) (w : World) (hH : Halves w) :
    Calls Tryz.prog 137 #[.string s] w fun e w' => e = .returned (.tuple #[.string (frameB s), .int .i64 0]) ∧ Gr w w' := by
  obtain ⟨a, ha⟩ : ∃ a, a = bs (be4 s.size) := ⟨_, rfl⟩
  obtain ⟨n, hn⟩ : ∃ n, n = Crc.sum (be4 s.size ++ s.data.toList) := ⟨_, rfl⟩
  have hnl : n < 4294967296 := by rw [hn]; exact Crc.sum_lt _
  obtain ⟨b, hb⟩ : ∃ b, b = bs (be4 n) := ⟨_, rfl⟩
  have za : a.size = 4 := by rw [ha]; exact be4_size _
  have zb : b.size = 4 := by rw [hb]; exact be4_size _
  have zab : (a ++ b).size = 8 := by rw [append_size, za, zb]
  have h1 := short_at (s.size : Int) s.size rfl (by omega) w
  have h2 : ∀ w1, Gr w w1 → Calls Tryz.prog 169 #[.string a, .string s] w1 fun e w' => e = .returned (.int .u32 (n : Nat)) ∧ w1 = w' := fun w1 g => by
    have := frameSum_any a s (by rw [za]; decide) (by unfold maxLen; omega) w1 (hH.gr g)
    rw [hn]
    rw [ha] at this ⊢
    exact this
  have h3 := fun w => short_at (n : Int) n rfl hnl w
  rw [← ha] at h1
  rw [← hb] at h3
  have HF := Lib.hid (show frameB s = a ++ b ++ s from by unfold frameB; rw [ha, hb, hn])
  have H1 := Lib.hid h1
  have H2 := Lib.hid h2
  have H3 := Lib.hid h3
  clear h1 h2 h3 ha hb hn hH
  go_enter Tryz.func137, Tryz.ntmps137
  go_wp2_with fail
  refine H1.out.mono ?_
  rintro e w1 ⟨rfl, g1⟩
  go_wp2_with fail
  refine (H2.out _ g1).mono ?_
  rintro e w2 ⟨rfl, rfl⟩
  go_wp2_with fail
  refine (H3.out _).mono ?_
  rintro e w2 ⟨rfl, g2⟩
  go_wp2
  go_ret2
  exact ⟨by rw [HF.out]; rfl, Gr.trans g1 g2⟩
theorem frame_no (s : ByteArray) (hs : 65536 < s.size) (w : World) :
    Calls Tryz.prog 137 #[.string s] w fun e w' => e = .returned (.tuple #[.string ⟨#[]⟩, .int .i64 2]) ∧ w = w' := by
  go_enter Tryz.func137, Tryz.ntmps137
  go_wp2
  go_ret2
  exact ⟨rfl, rfl⟩
end Go.Proofs.YtlnhbndghnkfmaaGreatDoor
