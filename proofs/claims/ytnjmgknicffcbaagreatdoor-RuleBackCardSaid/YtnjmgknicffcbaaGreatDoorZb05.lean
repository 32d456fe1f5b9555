/- Blocks and rows: what a store or a grown row leaves. It names no function. Rules in memory: one, a slice of them, a row that the call owns. Plain mathematics of the texts of vectors: numerals, words between points. No program in it. Plain mathematics of wholes: numerals with a sign. No program in it. -/
import Derived.Test.YtnjmgknicffcbaaGreatDoorZb04
import Derived.Test.YtnjmgknicffcbaaGreatDoorZb03
import Derived.Lib.SmallJoins
import Derived.Lib.ItoaNum
import Derived.Lib.ParseIntBCases
import Derived.Lib.ItoaMem
import Derived.Lib.ItoaLen
namespace Go.Proofs.YtnjmgknicffcbaaGreatDoor
open Go.RowKit

/-- What lies at a block that no row of another type owns. -/
theorem kp_obj {r : Option Nat} {w w' : World} (k : Kp r w w') {b : Nat} {o : Obj} (h : w.heap[b]? = some o) (hr : r ≠ some b) : w'.heap[b]? = some o := by
  rw [k.block b (Array.getElem?_eq_some_iff.1 h).1 (fun e => hr e.symm)]
  exact h
theorem gr_obj {w w' : World} (g : Gr w w') {b : Nat} {o : Obj} (h : w.heap[b]? = some o) : w'.heap[b]? = some o := by
  rw [g.block b (Array.getElem?_eq_some_iff.1 h).1]
  exact h
theorem own_ne_obj {w : World} {B size n : Nat} {t t' : TypeId} {v : Value} {xs : List Value} {b : Nat} {cs : Array Value} {fr : Nat × Nat} (h : w.ownsRow B t size v n xs) (ho : w.heap[b]? = some (.cells cs t' fr)) (ht : t ≠ t') : v.ownBlock ≠ some b := by
  intro e
  rcases h.2 with ⟨rfl, _⟩ | ⟨g, cap, cur, rfl, _, hg, _⟩
  · cases e
  · have e1 : g = b := by simpa [Value.ownBlock] using e
    subst e1
    rw [hg] at ho
    injection ho with ho
    injection ho with _ ho
    exact ht ho
theorem obj_cell {w : World} {b i : Nat} {cs : Array Value} {t : TypeId} {fr : Nat × Nat} {v : Value} (h : w.heap[b]? = some (.cells cs t fr)) (hv : cs[i]? = some v) : w.cell? ⟨b, i, none⟩ = some v := by
  unfold World.cell?
  simp only [h]
  exact hv
theorem obj_free {w : World} {b i : Nat} {cs : Array Value} {t : TypeId} (h : w.heap[b]? = some (.cells cs t (0, 0))) : w.frozen? ⟨b, i, none⟩ = false := by
  unfold World.frozen?
  simp only [h]
  simp
theorem set_obj {w : World} {b i : Nat} {cs : Array Value} {t : TypeId} {fr : Nat × Nat} (h : w.heap[b]? = some (.cells cs t fr)) (v : Value) : (w.setCell ⟨b, i, none⟩ v).heap[b]? = some (.cells (cs.setIfInBounds i v) t fr) := by
  have hlt : b < w.heap.size := (Array.getElem?_eq_some_iff.1 h).1
  have he : w.heap[b] = .cells cs t fr := (Array.getElem?_eq_some_iff.1 h).2
  show (w.heap.modify b _)[b]? = _
  rw [Array.getElem?_eq_getElem (by simpa using hlt), Array.getElem_modify, if_pos rfl, he]
  rfl
theorem set_obj_other {w : World} {b b' i : Nat} {o : Obj} (h : w.heap[b']? = some o) (hne : b' ≠ b) (v : Value) : (w.setCell ⟨b, i, none⟩ v).heap[b']? = some o := by
  rw [Below.heap_setCell w ⟨b, i, none⟩ v b' hne]
  exact h
end Go.Proofs.YtnjmgknicffcbaaGreatDoor
namespace Go.Proofs.YtnjmgknicffcbaaGreatDoor
open Go.RowKit Go.Joins
set_option linter.unusedSimpArgs false
set_option linter.unusedVariables false

theorem heap_allocR (w : World) (c : Array Value) (t : TypeId) : (w.alloc (.cells c t)).heap[w.heap.size]? = some (.cells c t (0, 0)) := by simp only [World.alloc, Array.getElem?_push]; simp
structure RU where
  k : Int
  key : ByteArray
  other : ByteArray
  min : Int
  start : Int
abbrev ruv (r : RU) : Array Value := #[.int .i64 r.k, .string r.key, .string r.other, .int .i64 r.min, .int .i64 r.start]
/-- A rule lies in these five cells. -/
def RCell (w : World) (b off : Nat) (r : RU) : Prop := w.cell? ⟨b, off, none⟩ = some (.int .i64 r.k) ∧ w.cell? ⟨b, off + 1, none⟩ = some (.string r.key) ∧ w.cell? ⟨b, off + 2, none⟩ = some (.string r.other) ∧ w.cell? ⟨b, off + 3, none⟩ = some (.int .i64 r.min) ∧ w.cell? ⟨b, off + 4, none⟩ = some (.int .i64 r.start)
theorem RCell.gr {w w' : World} {b off : Nat} {r : RU} (h : RCell w b off r) (g : Gr w w') : RCell w' b off r := ⟨g.cell h.1, g.cell h.2.1, g.cell h.2.2.1, g.cell h.2.2.2.1, g.cell h.2.2.2.2⟩
/-- A slice of rules. -/
def UV (w : World) (v : Value) (L : List RU) : Prop :=
  ∃ A c, v = .slice A L.length c ∧ L.length ≤ c ∧ (c ≤ maxLen ∧ (A = Option.none → c = 0)) ∧ ∀ j (hj : j < L.length), ∃ b off, A = some ⟨b, off, none⟩ ∧ RCell w b (off + j * 5) L[j]
theorem UV.gr {w w' : World} {v : Value} {L : List RU} (h : UV w v L) (g : Gr w w') : UV w' v L := by
  obtain ⟨A, c, hv, h1, h2, h3⟩ := h
  refine ⟨A, c, hv, h1, h2, fun j hj => ?_⟩
  obtain ⟨b, off, ha, hc⟩ := h3 j hj
  exact ⟨b, off, ha, hc.gr g⟩
theorem rubox (w : World) (r : RU) : ∃ W, W = w.alloc (.cells (ruv r) 49) ∧ Gr w W ∧ RCell W w.heap.size 0 r := by
  refine ⟨_, rfl, (Gr.refl w).alloc _, ?_⟩
  have h := heap_allocR w (ruv r) 49
  exact ⟨by rw [cell_of_block h]; rfl, by rw [cell_of_block h]; rfl, by rw [cell_of_block h]; rfl, by rw [cell_of_block h]; rfl, by rw [cell_of_block h]; rfl⟩
def ucell (r : RU) : List Value := [.int .i64 r.k, .string r.key, .string r.other, .int .i64 r.min, .int .i64 r.start]
theorem ucell_len (r : RU) : (ucell r).length = 5 := rfl
def ucells (L : List RU) : List Value := L.flatMap ucell
theorem ucells_len (L : List RU) : (ucells L).length = L.length * 5 := rows_len ucell 5 ucell_len L
theorem ucells_one (L : List RU) : ∀ u ∈ ucells L, u.oneCell' = true := by
  intro u hu
  obtain ⟨f, _, hf⟩ := List.mem_flatMap.1 hu
  unfold ucell at hf
  simp only [List.mem_cons, List.not_mem_nil, or_false] at hf
  rcases hf with rfl | rfl | rfl | rfl | rfl <;> rfl
theorem uv_form {w : World} {v : Value} {L : List RU} (h : UV w v L) : ∃ A c, v = .slice A L.length c := by
  obtain ⟨A, c, hv, _⟩ := h
  exact ⟨A, c, hv⟩
theorem UV.sl {w : World} {v : Value} {L : List RU} (h : UV w v L) : SL w 5 v L.length (ucells L) := by
  obtain ⟨A, c, hv, h1, h2, h3⟩ := h
  refine ⟨A, c, hv, h1, h2, ucells_len L, fun j u hj => ?_⟩
  obtain ⟨q, r, hq, hr, rfl, hu⟩ := rows_of ucell 5 ucell_len (by decide) L j u hj
  obtain ⟨b, off, ha, c0, c1, c2, c3, c4⟩ := h3 q hq
  refine ⟨b, off, ha, ?_⟩
  rw [← Nat.add_assoc]
  match r, hr with
  | 0, _ => injection hu with hu; rw [← hu]; exact c0
  | 1, _ => injection hu with hu; rw [← hu]; exact c1
  | 2, _ => injection hu with hu; rw [← hu]; exact c2
  | 3, _ => injection hu with hu; rw [← hu]; exact c3
  | 4, _ => injection hu with hu; rw [← hu]; exact c4
theorem UV.of_sl {w : World} {v : Value} {L : List RU} {n : Nat} (h : SL w 5 v n (ucells L)) : UV w v L := by
  obtain ⟨A, c, hv, h1, ⟨h2, h2'⟩, h3, h4⟩ := h
  have hn : L.length = n := by
    rw [ucells_len] at h3
    omega
  subst hn
  refine ⟨A, c, hv, h1, ⟨h2, h2'⟩, fun j hj => ?_⟩
  have at_ : ∀ r, r < 5 → (ucells L)[j * 5 + r]? = (ucell L[j])[r]? := fun r hr => rows_at ucell 5 ucell_len L j r hj hr
  obtain ⟨b, off, ha, c0⟩ := h4 (j * 5 + 0) _ (at_ 0 (by decide))
  have more : ∀ r u, (ucells L)[j * 5 + r]? = some u → w.cell? ⟨b, off + j * 5 + r, none⟩ = some u := fun r u hu => by
    obtain ⟨b', off', ha', c1⟩ := h4 (j * 5 + r) u hu
    rw [ha] at ha'
    injection ha' with ha'
    injection ha' with e1 e2
    subst e1 e2
    rw [Nat.add_assoc]
    exact c1
  exact ⟨b, off, ha, c0, more 1 _ (at_ 1 (by decide)), more 2 _ (at_ 2 (by decide)), more 3 _ (at_ 3 (by decide)), more 4 _ (at_ 4 (by decide))⟩
/-- The call owns this row of rules. -/
def UO (w : World) (B : Nat) (v : Value) (L : List RU) : Prop := w.ownsRow B 49 5 v L.length (ucells L)
theorem UO.gr {w w' : World} {B : Nat} {v : Value} {L : List RU} (h : UO w B v L) (g : Gr w w') : UO w' B v L := own_gr h g
theorem UO.le {w : World} {B B' : Nat} {v : Value} {L : List RU} (h : UO w B v L) (hb : B' ≤ B) : UO w B' v L := own_le h hb
theorem UO.nil (w : World) (B : Nat) : UO w B (.slice none 0 0) [] := World.ownsRow_nil w B _ _
theorem UO.uv {w : World} {B : Nat} {v : Value} {L : List RU} (h : UO w B v L) : UV w v L := UV.of_sl (own_sl h)
theorem infoRule : (Tryz.prog.info? 49).map (fun i => (i.zero, i.size, i.bytes)) = some (some (.agg #[.int .i64 0, .string ⟨#[]⟩, .string ⟨#[]⟩, .int .i64 0, .int .i64 0]), 5, 56) := by kernel_rfl
theorem wpList_push_u {W w0 : World} {ops : Array Oper} {rest : List Oper} {o : Oper} {a : Act} {Q : Exit → Act → World → Prop} (hw : Region.wanted o (yielded ops a.tmps) = true) (s x : Operand)
    (ho : o.op = .call { callee := .builtin .append, args := #[s, x], argTypes := #[22, 22] })
    (v vx : Value) (L M : List RU) (n m : Nat) (hn : n = L.length) (hm : m = M.length) (hs : a.eval s = v) (hown : UO W w0.heap.size v L) (hx : a.eval x = vx) (hxv : UV W vx M) (hlen : (n + m) * 56 ≤ 140737488355328) (hg : Gr w0 W)
    (h : ∀ A' c' w', UO w' w0.heap.size (.slice A' (n + m) c') (L ++ M) → Gr w0 w' → W.grownBy w' v.ownBlock → wpList Tryz.prog ops Q rest (a.put o.dst (.slice A' (n + m) c')) w') :
    wpList Tryz.prog ops Q (o :: rest) a W := by
  subst hn hm
  obtain ⟨i0, hi, hz0, hz1, hz2⟩ := info_parts infoRule
  have hsz := hg.size
  refine Go.BigFrame.wpList_want hw (fun K hK => ?_)
  refine wp_append_sl W s x 22 ho w0.heap.size 49 i0 _ 5 56 Tryz.underlying22 hi hz0 hz1 hz2 rfl (by decide) v L.length (ucells L) hs hown vx M.length (ucells M) hx
    hxv.sl (ucells_one M) (by unfold maxLen; omega) hlen hsz (L.length + M.length) rfl ?_
  intro A' c' w' hown' hgr _
  refine hK _ _ (h A' c' w' ?_ (gr_of_grown hg hown hgr hsz) hgr)
  unfold UO
  rw [List.length_append]
  unfold ucells at hown' ⊢
  rw [List.flatMap_append]
  exact hown'
theorem uv_one (w : World) (r : RU) (b : Nat) (hb : b = w.heap.size) : UV (w.alloc (.cells (ruv r) 49)) (.slice (some ⟨b, 0, none⟩) 1 1) [r] := by
  subst hb
  refine ⟨_, 1, rfl, Nat.le_refl _, ⟨by decide, fun h => by cases h⟩, fun j hj => ⟨w.heap.size, 0, rfl, ?_⟩⟩
  have hj0 : j = 0 := by simpa using hj
  subst hj0
  refine ⟨?_, ?_, ?_, ?_, ?_⟩ <;> (rw [World.cell?_alloc_mark]; rfl)

end Go.Proofs.YtnjmgknicffcbaaGreatDoor
namespace Go.Proofs.YtnjmgknicffcbaaGreatDoor.PV

def isDig (c : UInt8) : Prop := 48 ≤ c.toNat ∧ c.toNat ≤ 57
/-- What digits spell, behind acc. -/
def val (acc : Nat) (l : List UInt8) : Nat := l.foldl (fun n c => n * 10 + (c.toNat - 48)) acc
theorem val_cons (acc : Nat) (c : UInt8) (l : List UInt8) : val acc (c :: l) = val (acc * 10 + (c.toNat - 48)) l := by simp only [val, List.foldl_cons]
theorem val_snoc (acc : Nat) (l : List UInt8) (c : UInt8) : val acc (l ++ [c]) = val acc l * 10 + (c.toNat - 48) := by
  simp [val, List.foldl_append]
theorem val_ge : ∀ (l : List UInt8) (acc : Nat), acc ≤ val acc l
  | [], _ => Nat.le_refl _
  | c :: l, acc => by
    rw [val_cons]
    exact Nat.le_trans (by omega) (val_ge l _)
theorem parse_of : ∀ (l : List UInt8) (acc : Nat), (∀ c ∈ l, isDig c) → val acc l < 18446744073709551616 → Lib.parseUint10 acc l = .ok (val acc l)
  | [], _, _, _ => rfl
  | c :: r, acc, hd, hv => by
    have hc : 48 ≤ c.toNat ∧ c.toNat ≤ 57 := hd c (by simp)
    rw [val_cons] at hv ⊢
    have hg := val_ge r (acc * 10 + (c.toNat - 48))
    simp only [Lib.parseUint10]
    rw [if_pos hc, if_neg (by omega), if_neg (by omega)]
    exact parse_of r _ (fun x hx => hd x (by simp [hx])) hv

theorem decDigits_big {n : Nat} (h : ¬ n < 10) : Lib.decDigits n = Lib.decDigits (n / 10) ++ [UInt8.ofNat (48 + n % 10)] := by rw [Lib.decDigits, dif_neg h]
theorem dec_facts (n : Nat) : (∀ c ∈ Lib.decDigits n, isDig c) ∧ val 0 (Lib.decDigits n) = n ∧ Lib.decDigits n ≠ [] ∧ (1 ≤ n → (Lib.decDigits n).headD 0 ≠ 48) ∧ (n = 0 → (Lib.decDigits n).length = 1) := by
  induction n using Nat.strongRecOn with
  | ind n ih =>
    by_cases h : n < 10
    · rw [Lib.decDigits_one h]
      have e : (UInt8.ofNat (48 + n)).toNat = 48 + n := by rw [UInt8.toNat_ofNat']; omega
      refine ⟨fun c hc => ?_, ?_, by simp, fun h1 => ?_, fun _ => rfl⟩
      · obtain rfl := List.mem_singleton.1 hc
        unfold isDig; omega
      · simp only [val, List.foldl]; omega
      · intro e2
        have := congrArg UInt8.toNat e2
        simp only [List.headD_cons] at this
        rw [e] at this
        have : (48 : UInt8).toNat = 48 := rfl
        omega
    · obtain ⟨i1, i2, i3, i4, i5⟩ := ih (n / 10) (by omega)
      rw [decDigits_big h]
      have e : (UInt8.ofNat (48 + n % 10)).toNat = 48 + n % 10 := by rw [UInt8.toNat_ofNat']; omega
      refine ⟨fun c hc => ?_, ?_, by simp, fun _ => ?_, fun h0 => by omega⟩
      · rcases List.mem_append.1 hc with hc | hc
        · exact i1 c hc
        · obtain rfl := List.mem_singleton.1 hc
          unfold isDig; omega
      · rw [val_snoc, i2, e]; omega
      · have := i4 (by omega)
        cases hx : Lib.decDigits (n / 10) with
        | nil => exact absurd hx i3
        | cons x xs => rw [hx] at this; simpa using this
/-- Words with a point between each two. -/
def join : List (List UInt8) → List UInt8
  | [] => []
  | [w] => w
  | w :: v :: ws => w ++ 46 :: join (v :: ws)
end Go.Proofs.YtnjmgknicffcbaaGreatDoor.PV
namespace Go.Proofs.YtnjmgknicffcbaaGreatDoor.PV

theorem dec_inj {m n : Nat} (h : Lib.decDigits m = Lib.decDigits n) : m = n := by
  rw [← (dec_facts m).2.1, h, (dec_facts n).2.1]
theorem dec_ne45 {n : Nat} {c : UInt8} (h : c ∈ Lib.decDigits n) : c.toNat ≠ 45 ∧ c.toNat ≠ 43 := by
  have := (dec_facts n).1 c h
  unfold isDig at this
  omega
theorem itoa_pos {n : Int} (h : 0 ≤ n) : Lib.itoa n = Lib.decDigits n.toNat := by unfold Lib.itoa; rw [if_neg (by omega)]
theorem itoa_minus {n : Int} (h : n < 0) : Lib.itoa n = 45 :: Lib.decDigits n.natAbs := by unfold Lib.itoa; rw [if_pos h]
theorem dec_cons (n : Nat) : ∃ c r, Lib.decDigits n = c :: r ∧ c.toNat ≠ 45 ∧ c.toNat ≠ 43 := by
  cases h : Lib.decDigits n with
  | nil => exact absurd h (dec_facts n).2.2.1
  | cons c r => exact ⟨c, r, rfl, dec_ne45 (by rw [h]; simp)⟩
theorem itoa_inj {m n : Int} (h : Lib.itoa m = Lib.itoa n) : m = n := by
  by_cases hm : m < 0 <;> by_cases hn : n < 0
  · rw [itoa_minus hm, itoa_minus hn] at h
    have := dec_inj (List.cons.inj h).2
    omega
  · exfalso
    rw [itoa_minus hm, itoa_pos (by omega)] at h
    obtain ⟨c, r, e, h1, _⟩ := dec_cons n.toNat
    rw [e] at h
    exact h1 (by rw [← (List.cons.inj h).1]; rfl)
  · exfalso
    rw [itoa_minus hn, itoa_pos (by omega)] at h
    obtain ⟨c, r, e, h1, _⟩ := dec_cons m.toNat
    rw [e] at h
    exact h1 (by rw [(List.cons.inj h).1]; rfl)
  · rw [itoa_pos (by omega), itoa_pos (by omega)] at h
    have := dec_inj h
    omega
theorem parse_dec {u : Nat} (h : u < 18446744073709551616) : Lib.parseUintB 64 (Lib.decDigits u) = .ok u := by
  obtain ⟨h1, h2, h3, _⟩ := dec_facts u
  rw [Lib.parseUintB_64]
  unfold Lib.parseMag
  rw [if_neg h3, parse_of _ 0 h1 (by rw [h2]; exact h), h2]
theorem parse_itoa {n : Int} (h0 : -9223372036854775808 ≤ n) (h1 : n < 9223372036854775808) : Lib.parseIntB 64 (Lib.itoa n) = .ok n := by
  by_cases hn : n < 0
  · rw [itoa_minus hn, Lib.parseIntB_minus, parse_dec (by omega)]
    have e : (2 : Nat) ^ (64 - 1) = 9223372036854775808 := by decide
    simp only [Lib.signedC, e]
    rw [if_neg (by omega)]
    congr 1
    omega
  · rw [itoa_pos (by omega)]
    have hp := parse_dec (u := n.toNat) (by omega)
    obtain ⟨c, r, e, c1, c2⟩ := dec_cons n.toNat
    rw [e] at hp ⊢
    rw [Lib.parseIntB_plain _ _ _ c2 c1, hp]
    have e : (2 : Nat) ^ (64 - 1) = 9223372036854775808 := by decide
    simp only [Lib.signlessC, e]
    rw [if_neg (by omega)]
    congr 1
    omega

def inA (n : Int) : Prop := -1099511627776 ≤ n ∧ n ≤ 1099511627776
open Classical in
/-- The number of a word that is a whole. -/
noncomputable def wholeL (l : List UInt8) : Option Int := if h : ∃ n : Int, inA n ∧ Lib.itoa n = l then some h.choose else none
theorem wholeL_itoa {n : Int} (h : inA n) : wholeL (Lib.itoa n) = some n := by
  have hx : ∃ m : Int, inA m ∧ Lib.itoa m = Lib.itoa n := ⟨n, h, rfl⟩
  unfold wholeL
  rw [dif_pos hx]
  exact congrArg some (itoa_inj hx.choose_spec.2)
theorem wholeL_none {l : List UInt8} (h : ∀ n, inA n → Lib.itoa n ≠ l) : wholeL l = none := by
  unfold wholeL
  rw [dif_neg (fun ⟨n, h1, h2⟩ => h n h1 h2)]
/-- By what ParseInt answers. -/
theorem wholeL_ok {l : List UInt8} {v : Int} (h : Lib.parseIntB 64 l = .ok v) (h2 : ¬ (inA v ∧ Lib.itoa v = l)) : wholeL l = none :=
  wholeL_none fun n hn e => by
    have := parse_itoa (n := n) (by unfold inA at hn; omega) (by unfold inA at hn; omega)
    rw [e, h] at this
    injection this with this
    subst this
    exact h2 ⟨hn, e⟩
theorem wholeL_bad {l : List UInt8} (h : ∀ v, Lib.parseIntB 64 l ≠ .ok v) : wholeL l = none :=
  wholeL_none fun n hn e => h n (by rw [← e]; exact parse_itoa (by unfold inA at hn; omega) (by unfold inA at hn; omega))
theorem dec_len {n : Nat} (h : n ≤ 1099511627776) : (Lib.decDigits n).length ≤ 13 := by
  rw [Lib.decDigits_length]
  have := Lib.nDigits_pos n
  by_cases hq : Lib.nDigits n ≤ 13
  · exact hq
  · exfalso
    have key : ∀ (k u : Nat), u < 10 ^ k → 1 ≤ k → Lib.nDigits u ≤ k := by
      intro k
      induction k with
      | zero => intro u _ h; omega
      | succ k ih =>
        intro u hu _
        by_cases h10 : u < 10
        · rw [Lib.nDigits_small h10]; omega
        · rw [Lib.nDigits_big h10]
          have hk : 1 ≤ k := by
            by_cases hk : k = 0
            · subst hk; simp at hu; omega
            · omega
          have := ih (u / 10) (by rw [Nat.pow_succ] at hu; omega) hk
          omega
    have := key 13 n (by omega) (by decide)
    omega
theorem itoa_len {n : Int} (h : inA n) : (Lib.itoa n).length ≤ 14 := by
  unfold inA at h
  by_cases hn : n < 0
  · rw [itoa_minus hn]
    have := dec_len (n := n.natAbs) (by omega)
    simp only [List.length_cons]; omega
  · rw [itoa_pos (by omega)]
    have := dec_len (n := n.toNat) (by omega)
    omega
theorem wholeL_long {l : List UInt8} (h : 14 < l.length) : wholeL l = none :=
  wholeL_none fun n hn e => by
    have := itoa_len hn
    rw [e] at this
    omega
theorem itoa_head {n : Int} {l : List UInt8} (e : Lib.itoa n = l) : ∃ d : List UInt8, (l = d ∨ (l = 45 :: d ∧ d.headD 0 ≠ 48)) ∧ (∀ c ∈ d, isDig c) ∧ d ≠ [] ∧ (d.length = 1 ∨ d.headD 0 ≠ 48) := by
  by_cases hn : n < 0
  · rw [itoa_minus hn] at e
    obtain ⟨h1, h2, h3, h4, h5⟩ := dec_facts n.natAbs
    exact ⟨_, Or.inr ⟨e.symm, h4 (by omega)⟩, h1, h3, Or.inr (h4 (by omega))⟩
  · rw [itoa_pos (by omega)] at e
    obtain ⟨h1, h2, h3, h4, h5⟩ := dec_facts n.toNat
    refine ⟨_, Or.inl e.symm, h1, h3, ?_⟩
    by_cases h0 : n.toNat = 0
    · exact Or.inl (h5 h0)
    · exact Or.inr (h4 (by omega))
end Go.Proofs.YtnjmgknicffcbaaGreatDoor.PV
