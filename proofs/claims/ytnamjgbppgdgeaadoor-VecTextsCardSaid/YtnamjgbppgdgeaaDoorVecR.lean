/- Walks over package vec: readNumber; strings.Cut at a point. -/
import Derived.Test.YtnamjgbppgdgeaaDoorVecT
import Derived.Test.YtnamjgbppgdgeaaDoorPlainVec
import Derived.Lib.Strings
import Derived.Lib.IndexLaws
namespace Go.Proofs.YtnamjgbppgdgeaaDoor
open Go.RowKit Go.Joins

theorem gErrSyn : Tryd.prog.globalNamed "strconv.ErrSyntax" = some 2 := by kernel_rfl
theorem gErrRan : Tryd.prog.globalNamed "strconv.ErrRange" = some 3 := by kernel_rfl
/-- The library's two sentinels hold errors. -/
def Sents (w : World) : Prop := (∃ (tp : TypeId) (p : Value), w.var? Tryd.prog "strconv.ErrSyntax" = some #[.iface tp p]) ∧ (∃ (tq : TypeId) (q : Value), w.var? Tryd.prog "strconv.ErrRange" = some #[.iface tq q])
theorem Sents.gr {w w' : World} (h : Sents w) (g : Gr w w') : Sents w' := by
  obtain ⟨⟨tp, p, h1⟩, tq, q, h2⟩ := h
  exact ⟨⟨tp, p, var_stays gErrSyn h1 g (Nat.le_refl _)⟩, tq, q, var_stays gErrRan h2 g (Nat.le_refl _)⟩
theorem parseUint_gr_ok (s : ByteArray) (hs : s.size ≤ 140737488355328) (u : Nat) (h : Lib.parseUintB 64 s.data.toList = .ok u) (w : World) :
    Calls Tryd.prog 37 #[.string s, .int .i64 10, .int .i64 64] w fun e w' => e = .returned (.tuple #[.int .u64 u, .nilIface]) ∧ Gr w w' := by
  refine (parseUint_ok s (by omega) u h w).mono fun e w' ⟨he, hw⟩ => ⟨he, ?_⟩
  rcases hw with rfl | rfl
  · exact Gr.refl _
  · exact Lib.bytesWorld_below w _ s
theorem head_at {s : ByteArray} (h : 0 < s.size) : s.data.toList.headD 0 = s[0] := by
  obtain ⟨⟨l⟩⟩ := s
  match l, h with
  | a :: l, _ => rfl
def numVal : Option Nat → Value
  | some n => .tuple #[.int .u64 (n : Int), .bool true]
  | none => .tuple #[.int .u64 0, .bool false]
theorem numL_parse {l : List UInt8} (hz : ¬ (1 < l.length ∧ l.headD 0 = 48)) {n : Nat} (h : PV.numL l = some n) : Lib.parseUintB 64 l = .ok n := by
  unfold PV.numL at h
  rw [if_neg hz] at h
  split at h
  · next u hu => injection h with h; rw [hu, h]
  · cases h
theorem numL_noparse {l : List UInt8} (hz : ¬ (1 < l.length ∧ l.headD 0 = 48)) (h : PV.numL l = none) (u : Nat) : Lib.parseUintB 64 l ≠ .ok u := by
  intro hu
  unfold PV.numL at h
  rw [if_neg hz, hu] at h
  cases h

set_option maxRecDepth 100000 in
theorem readNumber_any (s : ByteArray) (hs : s.size ≤ maxLen) (w : World) (hS : Sents w) (hr : s.size ≤ 140737488355328) :
    Calls Tryd.prog 32 #[.string s] w fun e w' => e = .returned (numVal (PV.numL s.data.toList)) ∧ Gr w w' := by
  have hs' := hs
  unfold maxLen at hs
  have hlen : s.data.toList.length = s.size := by rw [Array.length_toList]; rfl
  by_cases h1 : 1 < s.size
  · have hhd := head_at (s := s) (by omega)
    have i0 : (0 : Int) < (s.size : Int) := by omega
    have g0 : 0 < s.size := by omega
    by_cases h0 : s[0] = 48
    · have hN := PV.numL_none_zero (l := s.data.toList) (by rw [hlen]; exact h1) (by rw [hhd]; exact h0)
      have HN := Lib.hid hN
      have e0 : ((s[0].toNat : Int) == 48) = true := by rw [h0]; rfl
      have e1 : (1 : Int) < (s.size : Int) := by omega
      clear hN hlen hhd h0 hs'
      go_enter Tryd.func32, Tryd.ntmps32
      go_wp2_with fail
      go_ret2
      exact ⟨by rw [HN.out]; rfl, Gr.refl _⟩
    · have e0 : ((s[0].toNat : Int) == 48) = false := by
        rw [beq_eq_false_iff_ne]
        intro e
        exact h0 (UInt8.toNat_inj.1 (by have : (48 : UInt8).toNat = 48 := rfl; omega))
      have e1 : (1 : Int) < (s.size : Int) := by omega
      have hz : ¬ (1 < s.data.toList.length ∧ s.data.toList.headD 0 = 48) := (fun ⟨_, b⟩ => h0 (by rw [← hhd]; exact b))
      cases hn : PV.numL s.data.toList with
      | some n =>
        have HP := Lib.hid (fun w => parseUint_gr_ok s hr n (numL_parse hz hn) w)
        clear hz hn hlen hhd h0 hs'
        go_enter Tryd.func32, Tryd.ntmps32
        go_wp2_with fail
        refine (HP.out _).mono ?_
        rintro e w1 ⟨rfl, hg⟩
        have HG := Lib.hid hg
        clear hg
        go_wp2_with fail
        go_ret2
        exact ⟨rfl, HG.out⟩
      | none =>
        obtain ⟨⟨tp, p, s1⟩, tq, q, s2⟩ := hS
        have HP := Lib.hid (parseUint_no s (by omega) (numL_noparse hz hn) tp tq p q w s1 s2)
        clear hz hn hlen hhd h0 hs' s1 s2
        go_enter Tryd.func32, Tryd.ntmps32
        go_wp2_with fail
        refine HP.out.mono ?_
        rintro e w1 ⟨x, N, rfl, hg⟩
        have HG := Lib.hid (show Gr w w1 from hg)
        clear hg
        go_wp2_with fail
        go_ret2
        exact ⟨rfl, HG.out⟩
  · have e1 : decide ((1 : Int) < (s.size : Int)) = false := decide_eq_false (by omega)
    have hz : ¬ (1 < s.data.toList.length ∧ s.data.toList.headD 0 = 48) := (fun ⟨a, _⟩ => h1 (by rw [← hlen]; exact a))
    cases hn : PV.numL s.data.toList with
    | some n =>
      have HP := Lib.hid (fun w => parseUint_gr_ok s hr n (numL_parse hz hn) w)
      clear hz hn hlen h1 hs'
      go_enter Tryd.func32, Tryd.ntmps32
      go_wp2_with fail
      refine (HP.out _).mono ?_
      rintro e w1 ⟨rfl, hg⟩
      have HG := Lib.hid hg
      clear hg
      go_wp2_with fail
      go_ret2
      exact ⟨rfl, HG.out⟩
    | none =>
      obtain ⟨⟨tp, p, s1⟩, tq, q, s2⟩ := hS
      have HP := Lib.hid (parseUint_no s (by omega) (numL_noparse hz hn) tp tq p q w s1 s2)
      clear hz hn hlen h1 hs' s1 s2
      go_enter Tryd.func32, Tryd.ntmps32
      go_wp2_with fail
      refine HP.out.mono ?_
      rintro e w1 ⟨x, N, rfl, hg⟩
      have HG := Lib.hid (show Gr w w1 from hg)
      clear hg
      go_wp2_with fail
      go_ret2
      exact ⟨rfl, HG.out⟩

theorem index_none : ∀ (l : List UInt8), (∀ c ∈ l, c ≠ 46) → Lib.indexByte l 46 = -1
  | [], _ => rfl
  | c :: r, h => by
    have hc : (c == 46) = false := beq_eq_false_iff_ne.2 (h c (by simp))
    have ih := index_none r (fun x hx => h x (by simp [hx]))
    simp [Lib.indexByte, hc, ih]
theorem index_dot : ∀ (w r : List UInt8), (∀ c ∈ w, c ≠ 46) → Lib.indexByte (w ++ 46 :: r) 46 = w.length
  | [], r, _ => by simp [Lib.indexByte]
  | c :: w, r, h => by
    have hc : (c == 46) = false := beq_eq_false_iff_ne.2 (h c (by simp))
    have ih := index_dot w r (fun x hx => h x (by simp [hx]))
    simp only [List.cons_append, Lib.indexByte, hc, ih]
    have : ((w.length : Int) == -1) = false := beq_eq_false_iff_ne.2 (by omega)
    simp [this]

set_option maxRecDepth 100000 in
theorem icut_none (s : ByteArray) (h : ∀ c ∈ s.data.toList, c ≠ 46) (w : World) :
    Calls Tryd.prog 36 #[.string s, .string ⟨#[46]⟩] w fun e w' => e = .returned (.tuple #[.string s, .string ⟨#[]⟩, .bool false]) ∧ Gr w w' := by
  have hi := index_one s 46 w
  rw [index_none _ h] at hi
  have HI := Lib.hid hi
  clear hi h
  go_enter Tryd.func36, Tryd.ntmps36
  go_wp2_with fail
  refine HI.out.mono ?_
  rintro e w1 ⟨rfl, rfl⟩
  go_wp2_with fail
  go_ret3
  exact ⟨rfl, Gr.refl _⟩
set_option maxRecDepth 100000 in
theorem icut_dot (s : ByteArray) (hs : s.size ≤ 140737488355328) (l r : List UInt8) (hl : ∀ c ∈ l, c ≠ 46) (h : s.data.toList = l ++ 46 :: r) (w : World) :
    Calls Tryd.prog 36 #[.string s, .string ⟨#[46]⟩] w fun e w' => e = .returned (.tuple #[.string ⟨l.toArray⟩, .string ⟨r.toArray⟩, .bool true]) ∧ Gr w w' := by
  have hi := index_one s 46 w
  rw [h, index_dot l r hl] at hi
  obtain ⟨k, hk⟩ : ∃ k, k = l.length := ⟨_, rfl⟩
  rw [← hk] at hi
  have hz : s.data.toList.length = s.size := by rw [Array.length_toList]; rfl
  have hz2 : s.size = k + 1 + r.length := by rw [← hz, h, hk]; simp; omega
  have E1 := Lib.hid (show s.extract 0 k = ⟨l.toArray⟩ from by
    apply ByteArray.ext
    apply Array.toList_inj.1
    rw [Lib.extract_data, h, hk]
    simp)
  have E2 := Lib.hid (show s.extract (k + 1) s.size = ⟨r.toArray⟩ from by
    apply ByteArray.ext
    apply Array.toList_inj.1
    rw [Lib.extract_data, h, hz2, hk]
    simp)
  have HI := Lib.hid hi
  have b1 : k + 1 ≤ s.size := by omega
  have b2 : k ≤ s.size := by omega
  have c1 : (k : Int) + 1 ≤ (s.size : Int) := by omega
  have c2 : (k : Int) ≤ (s.size : Int) := by omega
  have c0 : (0 : Int) ≤ (k : Int) := Int.natCast_nonneg _
  have c3 : IntKind.i64.wrap ((k : Int) + 1) = (k : Int) + 1 := by rw [IntKind.wrap_i64]; omega
  have c4 : ((k : Int) + 1).toNat = k + 1 := by omega
  have c5 : (0 : Int) ≤ (k : Int) + 1 := by omega
  clear hi h hl hz hz2 hk
  go_enter Tryd.func36, Tryd.ntmps36
  go_wp2_with fail
  refine HI.out.mono ?_
  rintro e w1 ⟨rfl, rfl⟩
  go_wp2_with fail
  go_quiet (fail)
  go_wp2_with fail
  go_ret3
  exact ⟨by rw [← E1.out, ← E2.out]; rfl, (Gr.refl _).drewN _⟩
end Go.Proofs.YtnamjgbppgdgeaaDoor
