/- Pairs as they are read: a slice of pairs; walks: comparing two lists of pairs, the document's. Walks: names of a store's logs and tables, the document's; changes as they are read. Walks: the program's names of logs and tables. Changes as they are read: a slice of changes; append onto a row of the call's own. Plain mathematics: strings are in one order. It names no program. Walks: the document's sum, bit by bit; frames. Walks: what scanning finds. Slices of strings: what a slice value reads as; rows of the call's own. -/
import Derived.Test.YtccjkfccklfjkaaGreatDoorZs01
import Derived.Test.YtccjkfccklfjkaaGreatDoorZs03
import Derived.Test.YtccjkfccklfjkaaGreatDoorZs04
import Derived.BigQuiet
import Derived.Deep.QuietTactic
import Derived.WalkSpells
import Derived.WalkLawsBesides
import Derived.Outline
import Derived.ChangeKeysEq
import Derived.Laws.StructEq
import Derived.Lib.SlBytesConst
import Derived.BigFrame
import Derived.Lib.Strings
import Derived.Lib.Hide
namespace Go.Proofs.YtccjkfccklfjkaaGreatDoor
open Go.RowKit

structure PR where
  key : ByteArray
  val : ByteArray
/-- The pair f lies at this place. -/
def PCell (w : World) (b off : Nat) (f : PR) : Prop :=
  w.cell? ⟨b, off, none⟩ = some (.string f.key) ∧ w.cell? ⟨b, off + 1, none⟩ = some (.string f.val)
/-- The slice value v reads as the pairs L. -/
def PV (w : World) (v : Value) (L : List PR) : Prop :=
  ∃ A c, v = .slice A L.length c ∧ L.length ≤ c ∧ (c ≤ maxLen ∧ (A = Option.none → c = 0)) ∧ ∀ j (hj : j < L.length), ∃ b off, A = some ⟨b, off, none⟩ ∧ PCell w b (off + j * 2) L[j]
theorem PCell.gr {w w' : World} {b off : Nat} {f : PR} (h : PCell w b off f) (g : Gr w w') : PCell w' b off f := ⟨g.cell h.1, g.cell h.2⟩
theorem PV.gr {w w' : World} {v : Value} {L : List PR} (h : PV w v L) (g : Gr w w') : PV w' v L := by
  obtain ⟨A, c, hv, h1, h2, h3⟩ := h
  refine ⟨A, c, hv, h1, h2, fun j hj => ?_⟩
  obtain ⟨b, off, ha, hc⟩ := h3 j hj
  exact ⟨b, off, ha, hc.gr g⟩
theorem PV.nil (w : World) : PV w (.slice none 0 0) [] := ⟨none, 0, rfl, Nat.le_refl _, ⟨Nat.zero_le _, fun _ => rfl⟩, fun j hj => absurd hj (by simp)⟩
theorem pv_form {w : World} {v : Value} {L : List PR} (h : PV w v L) : ∃ A c, v = .slice A L.length c := by
  obtain ⟨A, c, hv, _⟩ := h
  exact ⟨A, c, hv⟩
def pcell (f : PR) : List Value := [.string f.key, .string f.val]
def pcells (L : List PR) : List Value := L.flatMap pcell
theorem pcell_len (f : PR) : (pcell f).length = 2 := rfl
theorem pcells_len (L : List PR) : (pcells L).length = L.length * 2 := rows_len pcell 2 pcell_len L
theorem pcells_one (L : List PR) : ∀ u ∈ pcells L, u.oneCell' = true := by
  intro u hu
  obtain ⟨f, _, hf⟩ := List.mem_flatMap.1 hu
  unfold pcell at hf
  simp only [List.mem_cons, List.not_mem_nil, or_false] at hf
  rcases hf with rfl | rfl <;> rfl
theorem PV.sl {w : World} {v : Value} {L : List PR} (h : PV w v L) : SL w 2 v L.length (pcells L) := by
  obtain ⟨A, c, hv, h1, h2, h3⟩ := h
  refine ⟨A, c, hv, h1, h2, pcells_len L, fun j u hj => ?_⟩
  obtain ⟨q, r, hq, hr, rfl, hu⟩ := rows_of pcell 2 pcell_len (by decide) L j u hj
  obtain ⟨b, off, ha, c0, c1⟩ := h3 q hq
  refine ⟨b, off, ha, ?_⟩
  rw [← Nat.add_assoc]
  match r, hr with
  | 0, _ => injection hu with hu; rw [← hu]; exact c0
  | 1, _ => injection hu with hu; rw [← hu]; exact c1
theorem PV.of_sl {w : World} {v : Value} {L : List PR} {n : Nat} (h : SL w 2 v n (pcells L)) : PV w v L := by
  obtain ⟨A, c, hv, h1, ⟨h2, h2'⟩, h3, h4⟩ := h
  have hn : L.length = n := by
    rw [pcells_len] at h3
    omega
  subst hn
  refine ⟨A, c, hv, h1, ⟨h2, h2'⟩, fun j hj => ?_⟩
  have at_ : ∀ r, r < 2 → (pcells L)[j * 2 + r]? = (pcell L[j])[r]? := fun r hr => rows_at pcell 2 pcell_len L j r hj hr
  obtain ⟨b, off, ha, c0⟩ := h4 (j * 2 + 0) _ (at_ 0 (by decide))
  obtain ⟨b', off', ha', c1⟩ := h4 (j * 2 + 1) _ (at_ 1 (by decide))
  rw [ha] at ha'
  injection ha' with ha'
  injection ha' with e1 e2
  subst e1 e2
  refine ⟨b, off, ha, c0, ?_⟩
  rw [Nat.add_assoc]
  exact c1
/-- The call owns the slice v from block B on: it reads as these pairs. -/
def PO (w : World) (B : Nat) (v : Value) (L : List PR) : Prop := w.ownsRow B 66 2 v L.length (pcells L)
theorem PO.gr {w w' : World} {B : Nat} {v : Value} {L : List PR} (h : PO w B v L) (g : Gr w w') : PO w' B v L := own_gr h g
theorem PO.le {w : World} {B B' : Nat} {v : Value} {L : List PR} (h : PO w B v L) (hb : B' ≤ B) : PO w B' v L := own_le h hb
theorem PO.nil (w : World) (B : Nat) : PO w B (.slice none 0 0) [] := World.ownsRow_nil w B _ _
theorem PO.pv {w : World} {B : Nat} {v : Value} {L : List PR} (h : PO w B v L) : PV w v L := PV.of_sl (own_sl h)
theorem infoPair : (Tryz.prog.info? 66).map (fun i => (i.zero, i.size, i.bytes)) = some (some (.agg #[.string ⟨#[]⟩, .string ⟨#[]⟩]), 2, 32) := by kernel_rfl
end Go.Proofs.YtccjkfccklfjkaaGreatDoor
namespace Go.Proofs.YtccjkfccklfjkaaGreatDoor
open Go.RowKit

/-- The prefix of a generation's log. -/
def logW (n : Nat) : ByteArray := ⟨#[119, UInt8.ofNat (97 + n / 456976 % 26), UInt8.ofNat (97 + n / 17576 % 26), UInt8.ofNat (97 + n / 676 % 26), UInt8.ofNat (97 + n / 26 % 26), UInt8.ofNat (97 + n % 26)]⟩
theorem logW_size (n : Nat) : (logW n).size = 6 := rfl
theorem logW_prefix (n : Nat) : prefixB (logW n) = true := by
  refine prefix_good (by rw [logW_size]; decide) (fun k hk => ?_)
  rw [logW_size] at hk
  have h26 : ∀ q, (UInt8.ofNat (97 + q % 26)).toNat = 97 + q % 26 := fun q => by rw [UInt8.toNat_ofNat', Nat.mod_eq_of_lt (by omega)]
  have hl : ∀ q, lowB (UInt8.ofNat (97 + q % 26)).toNat = true := fun q => by rw [h26]; unfold lowB; exact decide_eq_true (by omega)
  match k, hk with
  | 0, _ => rfl
  | 1, _ => exact hl _
  | 2, _ => exact hl _
  | 3, _ => exact hl _
  | 4, _ => exact hl _
  | 5, _ => exact hl _
def tabP : ByteArray := ⟨#[116]⟩
end Go.Proofs.YtccjkfccklfjkaaGreatDoor
namespace Go.Proofs.YtccjkfccklfjkaaGreatDoor
open Go.RowKit

theorem run_conv5 (w : World) (a b c d e : Int) (cap : Nat) (T : TypeId) :
    (convert 121 9 (.slice (some ⟨w.heap.size, 0, none⟩) 5 cap)).run Tryz.prog (w.alloc (.cells #[.int .u8 a, .int .u8 b, .int .u8 c, .int .u8 d, .int .u8 e] T)) =
      .ok (.string (strOfNums [a, b, c, d, e])) (w.alloc (.cells #[.int .u8 a, .int .u8 b, .int .u8 c, .int .u8 d, .int .u8 e] T)) := by
  refine run_convert_bytes_arg _ 121 5 Tryz.underlying121 Tryz.underlying5 _ _ _ _ [a, b, c, d, e] rfl ?_ _ Tryz.underlying9
  intro i hi
  rw [Nat.zero_add, World.cell?_alloc_mark]
  match i, hi with
  | 0, _ => rfl
  | 1, _ => rfl
  | 2, _ => rfl
  | 3, _ => rfl
  | 4, _ => rfl
theorem five_size (a b c d e : Int) : (strOfNums [a, b, c, d, e]).size = 5 := rfl
theorem logs5_of (a b c d e : Nat) (n : Nat) (ha : a = n / 456976 % 26) (hb : b = n / 17576 % 26) (hc : c = n / 676 % 26) (hd : d = n / 26 % 26) (he : e = n % 26) :
    (⟨#[119]⟩ : ByteArray) ++ strOfNums [97 + (a : Int), 97 + (b : Int), 97 + (c : Int), 97 + (d : Int), 97 + (e : Int)] = logW n := by
  subst ha hb hc hd he
  rfl
set_option maxRecDepth 100000 in
set_option maxHeartbeats 2000000 in
theorem logPrefix_any (n : Nat) (hn : n ≤ 9223372036854775807) (w : World) :
    Calls Tryz.prog 74 #[.int .i64 (n : Int)] w fun e w' => e = .returned (.string (logW n)) ∧ Gr w w' := by
  have hcv := fun a b c d e cap => run_conv5 w a b c d e cap 148
  have hz5 := five_size
  have HF := Lib.hid (logs5_of (n / 26 / 26 / 26 / 26 % 26) (n / 26 / 26 / 26 % 26) (n / 26 / 26 % 26) (n / 26 % 26) (n % 26) n (by omega) (by omega) (by omega) (by omega) rfl)
  go_enter Tryz.func74, Tryz.ntmps74
  go_wp2_with fail
  go_rounds 6
  go_ret
  exact ⟨by rw [← HF.out]; rfl, gr_box w _⟩
end Go.Proofs.YtccjkfccklfjkaaGreatDoor
namespace Go.Proofs.YtccjkfccklfjkaaGreatDoor
open Go.RowKit

structure CR where
  key : ByteArray
  val : ByteArray
  gone : Bool
/-- The change f lies at this place. -/
def CCell (w : World) (b off : Nat) (f : CR) : Prop :=
  w.cell? ⟨b, off, none⟩ = some (.string f.key) ∧ w.cell? ⟨b, off + 1, none⟩ = some (.string f.val) ∧ w.cell? ⟨b, off + 2, none⟩ = some (.bool f.gone)
/-- The slice value v reads as the changes L. -/
def CV (w : World) (v : Value) (L : List CR) : Prop :=
  ∃ A c, v = .slice A L.length c ∧ L.length ≤ c ∧ (c ≤ maxLen ∧ (A = Option.none → c = 0)) ∧ ∀ j (hj : j < L.length), ∃ b off, A = some ⟨b, off, none⟩ ∧ CCell w b (off + j * 3) L[j]
theorem CCell.gr {w w' : World} {b off : Nat} {f : CR} (h : CCell w b off f) (g : Gr w w') : CCell w' b off f := ⟨g.cell h.1, g.cell h.2.1, g.cell h.2.2⟩
theorem CV.gr {w w' : World} {v : Value} {L : List CR} (h : CV w v L) (g : Gr w w') : CV w' v L := by
  obtain ⟨A, c, hv, h1, h2, h3⟩ := h
  refine ⟨A, c, hv, h1, h2, fun j hj => ?_⟩
  obtain ⟨b, off, ha, hc⟩ := h3 j hj
  exact ⟨b, off, ha, hc.gr g⟩
theorem CV.nil (w : World) : CV w (.slice none 0 0) [] := ⟨none, 0, rfl, Nat.le_refl _, ⟨Nat.zero_le _, fun _ => rfl⟩, fun j hj => absurd hj (by simp)⟩
def ccell (f : CR) : List Value := [.string f.key, .string f.val, .bool f.gone]
def ccells (L : List CR) : List Value := L.flatMap ccell
theorem ccell_len (f : CR) : (ccell f).length = 3 := rfl
theorem ccells_len (L : List CR) : (ccells L).length = L.length * 3 := rows_len ccell 3 ccell_len L
theorem ccells_one (L : List CR) : ∀ u ∈ ccells L, u.oneCell' = true := by
  intro u hu
  obtain ⟨f, _, hf⟩ := List.mem_flatMap.1 hu
  unfold ccell at hf
  simp only [List.mem_cons, List.not_mem_nil, or_false] at hf
  rcases hf with rfl | rfl | rfl <;> rfl
theorem CV.sl {w : World} {v : Value} {L : List CR} (h : CV w v L) : SL w 3 v L.length (ccells L) := by
  obtain ⟨A, c, hv, h1, h2, h3⟩ := h
  refine ⟨A, c, hv, h1, h2, ccells_len L, fun j u hj => ?_⟩
  obtain ⟨q, r, hq, hr, rfl, hu⟩ := rows_of ccell 3 ccell_len (by decide) L j u hj
  obtain ⟨b, off, ha, c0, c1, c2⟩ := h3 q hq
  refine ⟨b, off, ha, ?_⟩
  rw [← Nat.add_assoc]
  match r, hr with
  | 0, _ => injection hu with hu; rw [← hu]; exact c0
  | 1, _ => injection hu with hu; rw [← hu]; exact c1
  | 2, _ => injection hu with hu; rw [← hu]; exact c2
theorem CV.of_sl {w : World} {v : Value} {L : List CR} {n : Nat} (h : SL w 3 v n (ccells L)) : CV w v L := by
  obtain ⟨A, c, hv, h1, ⟨h2, h2'⟩, h3, h4⟩ := h
  have hn : L.length = n := by
    rw [ccells_len] at h3
    omega
  subst hn
  refine ⟨A, c, hv, h1, ⟨h2, h2'⟩, fun j hj => ?_⟩
  have at_ : ∀ r, r < 3 → (ccells L)[j * 3 + r]? = (ccell L[j])[r]? := fun r hr => rows_at ccell 3 ccell_len L j r hj hr
  obtain ⟨b, off, ha, c0⟩ := h4 (j * 3 + 0) _ (at_ 0 (by decide))
  obtain ⟨b', off', ha', c1⟩ := h4 (j * 3 + 1) _ (at_ 1 (by decide))
  obtain ⟨b2, off2, ha2, c2⟩ := h4 (j * 3 + 2) _ (at_ 2 (by decide))
  rw [ha] at ha' ha2
  injection ha' with ha'
  injection ha' with e1 e2
  subst e1 e2
  injection ha2 with ha2
  injection ha2 with e1 e2
  subst e1 e2
  refine ⟨b, off, ha, c0, ?_, ?_⟩
  · rw [Nat.add_assoc]
    exact c1
  · rw [Nat.add_assoc]
    exact c2
/-- The call owns the slice v from block B on: it reads as these changes. -/
def CO (w : World) (B : Nat) (v : Value) (L : List CR) : Prop := w.ownsRow B 70 3 v L.length (ccells L)
theorem CO.gr {w w' : World} {B : Nat} {v : Value} {L : List CR} (h : CO w B v L) (g : Gr w w') : CO w' B v L := own_gr h g
theorem CO.le {w : World} {B B' : Nat} {v : Value} {L : List CR} (h : CO w B v L) (hb : B' ≤ B) : CO w B' v L := own_le h hb
theorem CO.nil (w : World) (B : Nat) : CO w B (.slice none 0 0) [] := World.ownsRow_nil w B _ _
theorem CO.cv {w : World} {B : Nat} {v : Value} {L : List CR} (h : CO w B v L) : CV w v L := CV.of_sl (own_sl h)
theorem infoChange : (Tryz.prog.info? 70).map (fun i => (i.zero, i.size, i.bytes)) = some (some (.agg #[.string ⟨#[]⟩, .string ⟨#[]⟩, .bool false]), 3, 40) := by kernel_rfl

end Go.Proofs.YtccjkfccklfjkaaGreatDoor
namespace Go.Proofs.YtccjkfccklfjkaaGreatDoor
open Go.Op

theorem less_irrefl : ∀ a : List UInt8, bytesLess a a = false
  | [] => rfl
  | x :: a => by
    unfold bytesLess
    rw [less_irrefl a, Bool.and_false, Bool.or_false, decide_eq_false_iff_not]
    exact fun h => absurd h (UInt8.lt_irrefl x)
theorem less_trans : ∀ a b c : List UInt8, bytesLess a b = true → bytesLess b c = true → bytesLess a c = true
  | _, [], _, h, _ => by unfold bytesLess at h; cases h
  | _, _ :: _, [], _, h => by unfold bytesLess at h; cases h
  | [], _ :: _, _ :: _, _, _ => rfl
  | x :: a, y :: b, z :: c, h, k => by
    unfold bytesLess at h k ⊢
    simp only [Bool.or_eq_true, Bool.and_eq_true, decide_eq_true_eq, beq_iff_eq] at h k ⊢
    rcases h with h | ⟨rfl, h⟩
    · rcases k with k | ⟨rfl, k⟩
      · exact .inl (UInt8.lt_trans h k)
      · exact .inl h
    · rcases k with k | ⟨rfl, k⟩
      · exact .inl k
      · exact .inr ⟨rfl, less_trans a b c h k⟩
theorem less_total : ∀ a b : List UInt8, bytesLess a b = true ∨ a = b ∨ bytesLess b a = true
  | [], [] => .inr (.inl rfl)
  | [], _ :: _ => .inl rfl
  | _ :: _, [] => .inr (.inr rfl)
  | x :: a, y :: b => by
    unfold bytesLess
    simp only [Bool.or_eq_true, Bool.and_eq_true, decide_eq_true_eq, beq_iff_eq]
    rcases Nat.lt_trichotomy x.toNat y.toNat with h | h | h
    · exact .inl (.inl (UInt8.lt_iff_toNat_lt.2 h))
    · have e : x = y := UInt8.toNat_inj.1 h
      subst e
      rcases less_total a b with k | k | k
      · exact .inl (.inr ⟨rfl, k⟩)
      · exact .inr (.inl (by rw [k]))
      · exact .inr (.inr (.inr ⟨rfl, k⟩))
    · exact .inr (.inr (.inl (UInt8.lt_iff_toNat_lt.2 h)))
theorem lessS_irrefl (x : ByteArray) : lessS x x = false := less_irrefl _
theorem lessS_trans {x y z : ByteArray} (h : lessS x y = true) (k : lessS y z = true) : lessS x z = true := less_trans _ _ _ h k
theorem lessS_total (x y : ByteArray) : lessS x y = true ∨ x = y ∨ lessS y x = true := by
  rcases less_total x.toList y.toList with h | h | h
  · exact .inl h
  · refine .inr (.inl (eqS_iff.1 ?_))
    unfold eqS
    rw [h]
    simp
  · exact .inr (.inr h)
theorem lessS_asymm {x y : ByteArray} (h : lessS x y = true) : lessS y x = false := by
  rw [Bool.eq_false_iff]
  intro k
  have := lessS_trans h k
  rw [lessS_irrefl] at this
  cases this
theorem lessS_ne {x y : ByteArray} (h : lessS x y = true) : x ≠ y := fun e => by rw [e, lessS_irrefl] at h; cases h
end Go.Proofs.YtccjkfccklfjkaaGreatDoor
namespace Go.Proofs.YtccjkfccklfjkaaGreatDoor
open Go.RowKit

theorem Halves.gr {w w' : World} (h : Halves w) (g : Gr w w') : Halves w' := fun k hk => g.cell (h k hk)
theorem frameSum_any (a s : ByteArray) (ha : a.size ≤ maxLen) (hs : s.size ≤ maxLen) (w : World) (hH : Halves w) :
    Calls Tryz.prog 169 #[.string a, .string s] w fun e w' => e = .returned (.int .u32 (Crc.sum (a.data.toList ++ s.data.toList) : Nat)) ∧ w = w' := by
  have h1 := sumOn_any Crc.start Crc.start_lt a ha w hH
  have l1 := Crc.sumOn_lt a.data.toList Crc.start_lt
  obtain ⟨m, hm⟩ : ∃ m, m = Crc.sumOn Crc.start a.data.toList := ⟨_, rfl⟩
  rw [← hm] at h1 l1
  have h2 := sumOn_any m l1 s hs w hH
  have l2 := Crc.sumOn_lt s.data.toList l1
  obtain ⟨r, hr⟩ : ∃ r, r = Crc.sumOn m s.data.toList := ⟨_, rfl⟩
  rw [← hr] at h2 l2
  have hn := not_u32 r l2
  have HL := Lib.hid (show Crc.sum (a.data.toList ++ s.data.toList) = Crc.fin r from by rw [hr, hm, ← Crc.sumOn_append]; rfl)
  have H1 := Lib.hid h1
  have H2 := Lib.hid h2
  clear h1 h2 hm hr hH
  go_enter Tryz.func169, Tryz.ntmps169
  go_wp2_with fail
  refine H1.out.mono ?_
  rintro e w1 ⟨rfl, rfl⟩
  go_wp2_with fail
  refine H2.out.mono ?_
  rintro e w1 ⟨rfl, rfl⟩
  go_wp2
  go_ret
  exact ⟨by rw [HL.out]; rfl, rfl⟩

/-- A frame as the document has it. -/
def frameB (s : ByteArray) : ByteArray := bs (be4 s.size) ++ bs (be4 (Crc.sum (be4 s.size ++ s.data.toList))) ++ s
theorem append_size (a b : ByteArray) : (a ++ b).size = a.size + b.size := ByteArray.size_append
theorem append_data (a b : ByteArray) : (a ++ b).data.toList = a.data.toList ++ b.data.toList := by
  rw [ByteArray.data_append, Array.toList_append]
theorem frame_yes (s : ByteArray) (hs : s.size ≤ 65536) (w : World) (hH : Halves w) :
    Calls Tryz.prog 137 #[.string s] w fun e w' => e = .returned (.tuple #[.string (frameB s), .int .i64 0]) ∧ Gr w w' := by
  obtain ⟨a, ha⟩ : ∃ a, a = bs (be4 s.size) := ⟨_, rfl⟩
  obtain ⟨n, hn⟩ : ∃ n, n = Crc.sum (be4 s.size ++ s.data.toList) := ⟨_, rfl⟩
  have hnl : n < 4294967296 := by rw [hn]; exact Crc.sum_lt _
  obtain ⟨b, hb⟩ : ∃ b, b = bs (be4 n) := ⟨_, rfl⟩
  have za : a.size = 4 := by rw [ha]; exact be4_size _
  have zb : b.size = 4 := by rw [hb]; exact be4_size _
  have zab : (a ++ b).size = 8 := by rw [append_size, za, zb]
  have h1 := short_at (s.size : Int) s.size rfl (by omega) w
  have h2 : ∀ w1, Gr w w1 → Calls Tryz.prog 169 #[.string a, .string s] w1 fun e w' => e = .returned (.int .u32 (n : Nat)) ∧ w1 = w' := fun w1 g => by
    have := frameSum_any a s (by rw [za]; decide) (by unfold maxLen; omega) w1 (hH.gr g)
    rw [hn]
    rw [ha] at this ⊢
    exact this
  have h3 := fun w => short_at (n : Int) n rfl hnl w
  rw [← ha] at h1
  rw [← hb] at h3
  have HF := Lib.hid (show frameB s = a ++ b ++ s from by unfold frameB; rw [ha, hb, hn])
  have H1 := Lib.hid h1
  have H2 := Lib.hid h2
  have H3 := Lib.hid h3
  clear h1 h2 h3 ha hb hn hH
  go_enter Tryz.func137, Tryz.ntmps137
  go_wp2_with fail
  refine H1.out.mono ?_
  rintro e w1 ⟨rfl, g1⟩
  go_wp2_with fail
  refine (H2.out _ g1).mono ?_
  rintro e w2 ⟨rfl, rfl⟩
  go_wp2_with fail
  refine (H3.out _).mono ?_
  rintro e w2 ⟨rfl, g2⟩
  go_wp2
  go_ret2
  exact ⟨by rw [HF.out]; rfl, Gr.trans g1 g2⟩
theorem frame_no (s : ByteArray) (hs : 65536 < s.size) (w : World) :
    Calls Tryz.prog 137 #[.string s] w fun e w' => e = .returned (.tuple #[.string ⟨#[]⟩, .int .i64 2]) ∧ w = w' := by
  go_enter Tryz.func137, Tryz.ntmps137
  go_wp2
  go_ret2
  exact ⟨rfl, rfl⟩
end Go.Proofs.YtccjkfccklfjkaaGreatDoor
namespace Go.Proofs.YtccjkfccklfjkaaGreatDoor
open Go.RowKit

theorem bs_data (s : ByteArray) : bs s.data.toList = s := Lib.mk_data s

def ffVal : Option (List UInt8) → Value
  | none => .tuple #[.string ⟨#[]⟩, .bool false]
  | some b => .tuple #[.string (bs b), .bool true]
/-- A quiet callee in a region behind earlier draws. -/
theorem quietMore {P : Program} {f : FuncId} {args : Array Value} {w : World} {a n : Nat} {v : Value} (h : ∀ k, Calls P f args (w.drewN k) fun e w' => e = .returned v ∧ ∃ m, w' = (w.drewN k).drewN m) :
    Calls P f args (w.drewN (a + n)) fun e w'' => e = .returned v ∧ ∃ m, w'' = w.drewN (a + m) :=
  (h (a + n)).mono fun _ _ ⟨he, m, hm⟩ => ⟨he, n + m, by rw [hm, World.drewN_drewN, Nat.add_assoc]⟩
theorem Halves.drewN {w : World} (h : Halves w) (n : Nat) : Halves (w.drewN n) := h.gr ((Gr.refl _).drewN n)

set_option maxRecDepth 100000 in
theorem firstFrame_any (s : ByteArray) (hs : s.size ≤ maxLen) (w : World) (hH : Halves w) :
    Calls Tryz.prog 174 #[.string s] w fun e w' => e = .returned (ffVal (first s.data.toList)) ∧ Gr w w' := by
  have hsz : s.data.toList.length = s.size := (Lib.size_eq s).symm
  by_cases h8 : s.size < 8
  · have HF := Lib.hid (show first s.data.toList = none from by unfold first; rw [if_pos (by omega)])
    clear hsz
    unfold maxLen at hs
    go_enter Tryz.func174, Tryz.ntmps174
    go_wp2
    go_ret2
    exact ⟨by rw [HF.out]; rfl, Gr.refl _⟩
  have h1 := fun k => readShort_any s hs (by omega) (w.drewN k)
  obtain ⟨n, hn⟩ : ∃ n, n = rdS s.data.toList := ⟨_, rfl⟩
  have hnl : n < 4294967296 := by rw [hn]; exact rdS_lt _
  rw [← hn] at h1
  have H1 := Lib.hid h1
  have hs2 : s.size ≤ 9223372036854775807 := by unfold maxLen at hs; omega
  have i8 : (8 : Int) ≤ (s.size : Int) := by omega
  have i4 : (4 : Int) ≤ (s.size : Int) := by omega
  by_cases hbig : 65536 < n
  · have HF := Lib.hid (show first s.data.toList = none from by unfold first; rw [if_neg (by omega), ← hn, if_pos (Or.inl hbig)])
    clear h1 hn hsz hs
    go_enter Tryz.func174, Tryz.ntmps174
    go_wp2_with fail
    go_quiet (with_reducible exact Calls.quiet_of (H1.out _))
    go_wp2
    go_ret2
    exact ⟨by rw [HF.out]; rfl, (Gr.refl _).drewN _⟩
  by_cases hfit : s.size < 8 + n
  · have HF := Lib.hid (show first s.data.toList = none from by unfold first; rw [if_neg (by omega), ← hn, if_pos (Or.inr (by omega))])
    clear h1 hn hsz hs
    go_enter Tryz.func174, Tryz.ntmps174
    go_wp2_with fail
    go_quiet (with_reducible exact Calls.quiet_of (H1.out _))
    go_wp2
    go_ret2
    exact ⟨by rw [HF.out]; rfl, (Gr.refl _).drewN _⟩
  obtain ⟨r, hr⟩ : ∃ r, r = s.extract 8 s.size := ⟨_, rfl⟩
  obtain ⟨b, hb⟩ : ∃ b, b = (s.extract 8 s.size).extract 0 n := ⟨_, rfl⟩
  have hrz : (s.extract 8 s.size).size = s.size - 8 := by rw [ByteArray.size_extract]; omega
  have hrd : (s.extract 8 s.size).data.toList = s.data.toList.drop 8 := by rw [Lib.extract_data, List.take_of_length_le (by first | (simp; done) | (simp; omega))]
  have hbd : b.data.toList = (s.data.toList.drop 8).take n := by rw [hb, Lib.extract_data, hrd, List.drop_zero, Nat.sub_zero]
  have hbz : b.size = n := by rw [hb, ByteArray.size_extract, hrz]; omega
  have h2 := fun k => readShort_any (s.extract 4 s.size) (by rw [ByteArray.size_extract]; unfold maxLen; omega) (by rw [ByteArray.size_extract]; omega) (w.drewN k)
  have hd4 : (s.extract 4 s.size).data.toList = s.data.toList.drop 4 := by rw [Lib.extract_data, List.take_of_length_le (by first | (simp; done) | (simp; omega))]
  rw [hd4] at h2
  have h3 := fun k => frameSum_any (s.extract 0 4) b (by rw [ByteArray.size_extract]; unfold maxLen; omega) (by rw [hbz]; unfold maxLen; omega) (w.drewN k) (hH.drewN k)
  have hd0 : (s.extract 0 4).data.toList = s.data.toList.take 4 := by rw [Lib.extract_data, List.drop_zero, Nat.sub_zero]
  rw [hd0, hbd] at h3
  have hx := rdS_lt (s.data.toList.drop 4)
  obtain ⟨x, hxe⟩ : ∃ x, x = rdS (s.data.toList.drop 4) := ⟨_, rfl⟩
  obtain ⟨y, hye⟩ : ∃ y, y = Crc.sum (s.data.toList.take 4 ++ (s.data.toList.drop 8).take n) := ⟨_, rfl⟩
  rw [← hxe] at h2
  rw [← hye] at h3
  rw [hb] at h3
  have h3' : ∀ k, Calls Tryz.prog 169 #[.string (s.extract 0 4), .string ((s.extract 8 s.size).extract 0 n)] (w.drewN k) fun e w' => e = .returned (.int .u32 (y : Nat)) ∧ ∃ m, w' = (w.drewN k).drewN m := fun k => (h3 k).mono fun e w' ⟨a, b⟩ => ⟨a, 0, by rw [← b]; rfl⟩
  have H2 := Lib.hid h2
  have H3 := Lib.hid h3'
  have hn8 : 8 + n ≤ s.size := by omega
  have hn6 : n ≤ 65536 := by omega
  by_cases heq : x = y
  · have HF := Lib.hid (show ffVal (first s.data.toList) = .tuple #[.string ((s.extract 8 s.size).extract 0 n), .bool true] from by
      have : first s.data.toList = some b.data.toList := by unfold first; rw [if_neg (by omega), ← hn, if_neg (by omega), ← hxe, ← hye, if_pos heq, hbd]
      rw [this]; unfold ffVal; simp only []; rw [bs_data, hb])
    have ht : ((x : Int) != (y : Int)) = false := by rw [heq]; simp
    clear h1 h2 h3 h3' hn hsz hs hd0 hd4 hbd hrd hxe hye hr hb heq hbz
    go_enter Tryz.func174, Tryz.ntmps174
    go_wp2_with fail
    go_quiet (with_reducible exact Calls.quiet_of (H1.out _))
    go_wp2
    go_quiet ((first | with_reducible exact quietMore H2.out | with_reducible exact quietMore H3.out))
    go_wp2
    go_ret2
    exact ⟨by rw [HF.out]; rfl, ((Gr.refl _).drewN _).drewN _⟩
  · have HF := Lib.hid (show first s.data.toList = none from by
      unfold first; rw [if_neg (by omega), ← hn, if_neg (by omega), ← hxe, ← hye, if_neg heq])
    have ht : ((x : Int) != (y : Int)) = true := by rw [bne_iff_ne]; omega
    clear h1 h2 h3 h3' hn hsz hs hd0 hd4 hbd hrd hxe hye hr hb heq hbz
    go_enter Tryz.func174, Tryz.ntmps174
    go_wp2_with fail
    go_quiet (with_reducible exact Calls.quiet_of (H1.out _))
    go_wp2
    go_quiet ((first | with_reducible exact quietMore H2.out | with_reducible exact quietMore H3.out))
    go_wp2
    go_ret2
    exact ⟨by rw [HF.out]; rfl, ((Gr.refl _).drewN _).drewN _⟩
end Go.Proofs.YtccjkfccklfjkaaGreatDoor
namespace Go.Proofs.YtccjkfccklfjkaaGreatDoor
open Go.RowKit

/-- The slice value v reads as the strings L. -/
def SV (w : World) (v : Value) (L : List ByteArray) : Prop :=
  ∃ A c, v = .slice A L.length c ∧ L.length ≤ c ∧ (c ≤ maxLen ∧ (A = Option.none → c = 0)) ∧ ∀ j (hj : j < L.length), ∃ b off, A = some ⟨b, off, none⟩ ∧ w.cell? ⟨b, off + j, none⟩ = some (.string L[j])

theorem SV.gr {w w' : World} {v : Value} {L : List ByteArray} (h : SV w v L) (g : Gr w w') : SV w' v L := by
  obtain ⟨A, c, hv, h1, h2, h3⟩ := h
  refine ⟨A, c, hv, h1, h2, fun j hj => ?_⟩
  obtain ⟨b, off, ha, hc⟩ := h3 j hj
  exact ⟨b, off, ha, g.cell hc⟩
theorem SV.nil (w : World) : SV w (.slice none 0 0) [] := ⟨none, 0, rfl, Nat.le_refl _, ⟨Nat.zero_le _, fun _ => rfl⟩, fun j hj => absurd hj (by simp)⟩

theorem SV.of_own {w : World} {base : Nat} {e : TypeId} {v : Value} {L : List ByteArray} (h : w.ownsRow base e 1 v L.length (L.map Value.string)) : SV w v L := by
  rcases h.2 with ⟨rfl, h0⟩ | ⟨g, cap, cur, rfl, hb, hg, hn, hm, hc, ht⟩
  · have : L = [] := List.length_eq_zero_iff.1 h0
    subst this
    exact SV.nil w
  · refine ⟨_, cap, rfl, hn, ⟨hm, fun h => by cases h⟩, fun j hj => ⟨g, 0, rfl, ?_⟩⟩
    rw [Nat.zero_add, h.cellAt j (by omega)]
    simp [hj]
theorem infoString : (Tryz.prog.info? 9).map (fun i => (i.zero, i.size, i.bytes)) = some (some (.string ⟨#[]⟩), 1, 16) := by kernel_rfl

/-- A call's answer: a slice of strings in new memory, and a number. -/
def RetSVInt (L : List ByteArray) (k : Nat) (w : World) (e : Ending) (w' : World) : Prop :=
  ∃ v, e = .returned (.tuple #[v, .int .i64 (k : Int)]) ∧ w'.ownsRow w.heap.size 9 1 v L.length (L.map Value.string) ∧ Gr w w'
end Go.Proofs.YtccjkfccklfjkaaGreatDoor
