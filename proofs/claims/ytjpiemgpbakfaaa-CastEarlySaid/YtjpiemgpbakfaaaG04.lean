/- Texts TxC, TxD, joined. -/
import Derived.Test.YtjpiemgpbakfaaaG03
import Derived.Deep.DeepCutAuto
/- Lists of transactions; walks: slices.EqualFunc, the program's and the document's SameList. -/
namespace Go.Proofs.Ytjpiemgpbakfaaa
open Go.RowKit

/-- The cells of the transaction t, whose list is the slice v, lie at this place. -/
def XFix (w : World) (b off : Nat) (t : TX) (v : Value) : Prop :=
  w.cell? ⟨b, off, none⟩ = some (.int .i64 t.origin) ∧ w.cell? ⟨b, off + 1, none⟩ = some (.int .u64 (t.seq : Int)) ∧ w.cell? ⟨b, off + 2, none⟩ = some (.int .u64 (t.stamp : Int)) ∧
    w.cell? ⟨b, off + 3, none⟩ = some (.int .u64 (t.deps 0 : Int)) ∧ w.cell? ⟨b, off + 4, none⟩ = some (.int .u64 (t.deps 1 : Int)) ∧ w.cell? ⟨b, off + 5, none⟩ = some (.int .u64 (t.deps 2 : Int)) ∧ w.cell? ⟨b, off + 6, none⟩ = some (.int .u64 (t.deps 3 : Int)) ∧
    w.cell? ⟨b, off + 7, none⟩ = some (.int .u64 (t.deps 4 : Int)) ∧ w.cell? ⟨b, off + 8, none⟩ = some (.int .u64 (t.deps 5 : Int)) ∧ w.cell? ⟨b, off + 9, none⟩ = some (.int .u64 (t.deps 6 : Int)) ∧ w.cell? ⟨b, off + 10, none⟩ = some (.int .u64 (t.deps 7 : Int)) ∧
    w.cell? ⟨b, off + 11, none⟩ = some v
theorem XFix.gr {w w' : World} {b off : Nat} {t : TX} {v : Value} (h : XFix w b off t v) (g : Gr w w') : XFix w' b off t v := by
  obtain ⟨h1, h2, h3, h4, h5, h6, h7, h8, h9, h10, h11, h12⟩ := h
  exact ⟨g.cell h1, g.cell h2, g.cell h3, g.cell h4, g.cell h5, g.cell h6, g.cell h7, g.cell h8, g.cell h9, g.cell h10, g.cell h11, g.cell h12⟩
/-- A new box that holds a transaction. -/
theorem xbox (w : World) (t : TX) (v : Value) : ∃ W, W = w.alloc (.cells (tcs t v) 38) ∧ Gr w W ∧ XFix W w.heap.size 0 t v := by
  refine ⟨_, rfl, (Gr.refl w).alloc _, ?_⟩
  unfold XFix
  refine ⟨?_, ?_, ?_, ?_, ?_, ?_, ?_, ?_, ?_, ?_, ?_, ?_⟩ <;> (rw [World.cell?_alloc_at _ _ _ _ rfl]; rfl)
/-- The transaction t lies at this place. -/
def XCell (w : World) (b off : Nat) (t : TX) : Prop := ∃ v, TOV w v t.ops ∧ XFix w b off t v
theorem XCell.gr {w w' : World} {b off : Nat} {t : TX} (h : XCell w b off t) (g : Gr w w') : XCell w' b off t := by
  obtain ⟨v, h0, h1⟩ := h
  exact ⟨v, h0.gr g, h1.gr g⟩
/-- The slice value v reads as the transactions. -/
def XV (w : World) (v : Value) (L : List TX) : Prop :=
  ∃ A c, v = .slice A L.length c ∧ L.length ≤ c ∧ (c ≤ maxLen ∧ (A = Option.none → c = 0)) ∧ ∀ j (hj : j < L.length), ∃ b off, A = some ⟨b, off, none⟩ ∧ XCell w b (off + j * 12) L[j]
theorem XV.gr {w w' : World} {v : Value} {L : List TX} (h : XV w v L) (g : Gr w w') : XV w' v L := by
  obtain ⟨A, c, hv, h1, h2, h3⟩ := h
  refine ⟨A, c, hv, h1, h2, fun j hj => ?_⟩
  obtain ⟨b, off, ha, hc⟩ := h3 j hj
  exact ⟨b, off, ha, hc.gr g⟩
theorem xv_form {w : World} {v : Value} {L : List TX} (h : XV w v L) : ∃ A c, v = .slice A L.length c := by
  obtain ⟨A, c, hv, _⟩ := h
  exact ⟨A, c, hv⟩
def sameL : List TX → List TX → Bool
  | [], [] => true
  | f :: a, g :: b => sameT f g && sameL a b
  | _, _ => false
theorem sameL_len : ∀ {La Lb : List TX}, La.length ≠ Lb.length → sameL La Lb = false
  | [], [], h => absurd rfl h
  | [], _ :: _, _ => rfl
  | _ :: _, [], _ => rfl
  | f :: a, g :: b, h => by
    unfold sameL
    rw [sameL_len (La := a) (Lb := b) (fun e => h (by simp [e]))]
    simp
theorem sameL_at : ∀ {La Lb : List TX} (_ : La.length = Lb.length), (sameL La Lb = true ↔ ∀ j (h1 : j < La.length) (h2 : j < Lb.length), sameT La[j] Lb[j] = true)
  | [], [], _ => by simp [sameL]
  | f :: a, g :: b, h => by
    unfold sameL
    rw [Bool.and_eq_true, sameL_at (La := a) (Lb := b) (by simpa using h)]
    refine ⟨fun ⟨h1, h2⟩ j hj hj2 => ?_, fun h0 => ⟨h0 0 (by simp) (by simp), fun j hj hj2 => h0 (j + 1) (by simpa using hj) (by simpa using hj2)⟩⟩
    cases j with
    | zero => exact h1
    | succ j => exact h2 j (by simpa using hj) (by simpa using hj2)
theorem sameL_self (L : List TX) : sameL L L = true := (sameL_at rfl).2 fun _ _ _ => sameT_self _
theorem sameL_not {La Lb : List TX} (h : La.length = Lb.length) {j : Nat} (h1 : j < La.length) (h2 : j < Lb.length) (hn : sameT La[j] Lb[j] = false) : sameL La Lb = false := by
  rw [Bool.eq_false_iff]
  intro e
  rw [(sameL_at h).1 e j h1 h2] at hn
  cases hn
def XSameRel (La Lb : List TX) (W : World) (i : Value) (wr : World) : Prop :=
  ∃ k : Nat, k ≤ La.length ∧ i = .int .i64 k ∧ Gr W wr ∧ ∀ j (h1 : j < La.length) (h2 : j < Lb.length), j < k → sameT La[j] Lb[j] = true

set_option maxRecDepth 100000 in
set_option maxHeartbeats 2000000 in
/-- The document's SameList. -/
theorem rsameL_any (va vb : Value) (La Lb : List TX) (w : World) (ha : XV w va La) (hb : XV w vb Lb) :
    Calls Try.prog 21 #[va, vb] w fun e w' => e = .returned (.bool (sameL La Lb)) ∧ Gr w w' := by
  obtain ⟨A, ca, rfl, la1, ⟨la2, _⟩, la3⟩ := ha
  obtain ⟨B, cb, rfl, lb1, ⟨lb2, _⟩, lb3⟩ := hb
  unfold maxLen at la2 lb2
  obtain ⟨n, hn⟩ : ∃ n, n = La.length := ⟨_, rfl⟩
  by_cases hl : La.length = Lb.length
  · have HL := Lib.hid hl
    rw [← hl, ← hn] at lb1
    rw [← hl, ← hn]
    rw [← hn] at la1
    have HN := Lib.hid hn
    have ht : ((n : Int) != (n : Int)) = false := by simp
    have HA := Lib.hid la3
    have HB := Lib.hid lb3
    clear hl hn la3 lb3
    go_enter Try.func21, Try.ntmps21
    go_wp2_with fail
    go_loopw [5] (fun i wr => XSameRel La Lb w i wr) (fun i _ => n - (intOf i).toNat)
    case atStart => exact ⟨0, Nat.zero_le _, rfl, Gr.refl _, fun j _ _ h => absurd h (Nat.not_lt_zero _)⟩
    case round =>
      obtain ⟨k, hk, rfl, hgr, hkk⟩ := hrel
      rw [← HN.out] at hk
      have HK := Lib.hid hkk
      clear hkk
      by_cases hlt : k < n
      · have hkA : k < La.length := by rw [← HN.out]; exact hlt
        have hkB : k < Lb.length := by rw [← HL.out, ← HN.out]; exact hlt
        obtain ⟨b, off, rfl, ha⟩ := HA.out k hkA
        obtain ⟨b', off', rfl, hb⟩ := HB.out k hkB
        obtain ⟨f, hf⟩ : ∃ f, f = La[k] := ⟨_, rfl⟩
        obtain ⟨g, hg⟩ : ∃ g, g = Lb[k] := ⟨_, rfl⟩
        rw [← hf] at ha
        rw [← hg] at hb
        obtain ⟨vf, af, a0⟩ := ha.gr hgr
        obtain ⟨vg, ag, c0⟩ := hb.gr hgr
        have HG := Lib.hid hgr
        have hs := fun (w1 : World) (g1 : Gr wr w1) => rsame8_any f g vf vg w1 (af.gr g1) (ag.gr g1)
        have HNT := Lib.hid (fun (h : sameT f g = false) => sameL_not HL.out hkA hkB (by rw [← hf, ← hg]; exact h))
        have HST := Lib.hid (fun (h : sameT f g = true) (j : Nat) (h1 : j < La.length) (h2 : j < Lb.length) (hj : j < k + 1) => show sameT La[j] Lb[j] = true by
          by_cases e : j = k
          · subst e; rw [← hf, ← hg]; exact h
          · exact HK.out j h1 h2 (by omega))
        obtain ⟨r, hr⟩ : ∃ r, r = sameT f g := ⟨_, rfl⟩
        rw [← hr] at hs HNT HST
        have HS := Lib.hid hs
        have HST0 : Hid (XFix wr.drew b (off + k * 12) f vf ∧ XFix wr.drew b' (off' + k * 12) g vg ∧ Gr wr wr.drew) := Lib.hid ⟨a0.gr (Gr.refl _).drew, c0.gr (Gr.refl _).drew, (Gr.refl _).drew⟩
        clear ha hb hgr hs hr hf hg hkA hkB a0 c0 af ag
        go_upto_region 6 with (fail)
        refine qRegion (fun w' => XFix w' b (off + k * 12) f vf ∧ XFix w' b' (off' + k * 12) g vg ∧ Gr wr w') (by kernel_rfl) (by kernel_rfl) HST0.out ?_
        iterate 8
          refine qTake (by kernel_rfl) ?_
          apply Exists.intro
          refine ⟨fun wq hq => ?_, ?_⟩
          · go_light
            obtain ⟨⟨h0, h1, h2, h3, h4, h5, h6, h7, h8, h9, h10, h11⟩, ⟨q0, q1, q2, q3, q4, q5, q6, q7, q8, q9, q10, q11⟩, -⟩ := hq
            go_simp
            try with_reducible rfl
            done
          try simp only [Act.put, List.setIfInBounds_toArray, List.set_cons_zero, List.set_cons_succ]
        refine qCall (by kernel_rfl) ?_
        apply Exists.intro
        refine ⟨?_, ?_⟩
        · apply Exists.intro
          apply Exists.intro
          refine ⟨fun wq => ?_, fun wq hq => ?_⟩
          · go_light
            go_simp
            exact ⟨rfl, rfl⟩
          · exact (HS.out wq hq.2.2).mono fun e w2 h => ⟨h.1, hq.1.gr h.2, hq.2.1.gr h.2, hq.2.2.trans h.2⟩
        try simp only [Act.put, List.setIfInBounds_toArray, List.set_cons_zero, List.set_cons_succ]
        iterate 1
          refine qTake (by kernel_rfl) ?_
          apply Exists.intro
          refine ⟨fun wq hq => ?_, ?_⟩
          · go_light
            obtain ⟨⟨h0, h1, h2, h3, h4, h5, h6, h7, h8, h9, h10, h11⟩, ⟨q0, q1, q2, q3, q4, q5, q6, q7, q8, q9, q10, q11⟩, -⟩ := hq
            go_simp
            try with_reducible rfl
            done
          try simp only [Act.put, List.setIfInBounds_toArray, List.set_cons_zero, List.set_cons_succ]
        refine qNil ?_
        intro w3 hC
        have HG3 := Lib.hid (HG.out.trans hC.2.2)
        clear hC HST0 HS
        rcases r with _ | _
        · have HF := Lib.hid (HNT.out rfl)
          clear HNT HST
          go_wp2_with fail
          go_ret
          exact ⟨by rw [HF.out]; rfl, HG3.out⟩
        · have HF := Lib.hid (HST.out rfl)
          clear HNT HST
          go_wp2_with fail
          go_roundw
          case rel => exact ⟨k + 1, by rw [← HN.out]; omega, by go_num, HG3.out, HF.out⟩
          case measure => simp [intOf]; omega
      · have hall : sameL La Lb = true := (sameL_at HL.out).2 fun j h1 h2 => HK.out j h1 h2 (by rw [← HN.out] at h1; omega)
        have HF := Lib.hid hall
        clear hall
        go_wp2_with fail
        go_ret
        exact ⟨by rw [HF.out]; rfl, hgr⟩
  · have HF := Lib.hid (sameL_len (La := La) (Lb := Lb) hl)
    have ht : ((La.length : Int) != (Lb.length : Int)) = true := by rw [bne_iff_ne]; omega
    obtain ⟨m, hm⟩ : ∃ m, m = Lb.length := ⟨_, rfl⟩
    rw [← hm] at ht lb1 ⊢
    rw [← hn] at ht la1 ⊢
    clear hl hn hm la3 lb3
    go_enter Try.func21, Try.ntmps21
    go_wp2_with fail
    go_ret
    exact ⟨by rw [HF.out]; rfl, Gr.refl _⟩
end Go.Proofs.Ytjpiemgpbakfaaa
/- Walks: which keys, members' words, operations may be: the program's and the document's. -/
namespace Go.Proofs.Ytjpiemgpbakfaaa
open Go.RowKit

/-- A letter of a key. -/
def keyC (c : Nat) : Bool := decide ((97 ≤ c ∧ c ≤ 122) ∨ (48 ≤ c ∧ c ≤ 57) ∨ c = 47)
def keyS (p : ByteArray) : Bool := decide (1 ≤ p.size ∧ p.size ≤ 32) && p.data.toList.all fun c => keyC c.toNat
theorem keyS_short {p : ByteArray} (h : ¬ (1 ≤ p.size ∧ p.size ≤ 32)) : keyS p = false := by
  unfold keyS
  rw [decide_eq_false h]; rfl
theorem keyS_bad {p : ByteArray} {k : Nat} (hk : k < p.size) (h : keyC (p[k]).toNat = false) : keyS p = false := by
  unfold keyS
  have : (p.data.toList.all fun c => keyC c.toNat) = false := by
    rw [List.all_eq_false]
    exact ⟨p[k], by rw [ByteArray.getElem_eq_getElem_data]; exact Array.mem_toList_iff.2 (Array.getElem_mem _), by rw [h]; simp⟩
  rw [this, Bool.and_false]
theorem keyS_good {p : ByteArray} (h1 : 1 ≤ p.size ∧ p.size ≤ 32) (h : ∀ k (hk : k < p.size), keyC (p[k]).toNat = true) : keyS p = true := by
  unfold keyS
  rw [decide_eq_true h1, Bool.true_and, List.all_eq_true]
  intro c hc
  obtain ⟨i, hi, rfl⟩ := Array.mem_iff_getElem.1 (Array.mem_toList_iff.1 hc)
  exact h i hi
theorem keyS_size {p : ByteArray} (h : keyS p = true) : 1 ≤ p.size ∧ p.size ≤ 32 := by
  unfold keyS at h
  rw [Bool.and_eq_true] at h
  exact of_decide_eq_true h.1
theorem keyC_no {c : Nat} (h : keyC c = false) : ¬ ((97 ≤ c ∧ c ≤ 122) ∨ (48 ≤ c ∧ c ≤ 57) ∨ c = 47) := of_decide_eq_false h
theorem keyC_yes {c : Nat} (h : keyC c = true) : (97 ≤ c ∧ c ≤ 122) ∨ (48 ≤ c ∧ c ≤ 57) ∨ c = 47 := of_decide_eq_true h
theorem toList_nil_iff {x : ByteArray} : x.toList = [] ↔ x.size = 0 := by
  rw [ByteArray.toList_eq, List.eq_nil_iff_length_eq_zero, Array.length_toList]
  rfl
theorem toList_nil {x : ByteArray} (h : x.size = 0) : x.toList = [] := toList_nil_iff.2 h
theorem toList_some {x : ByteArray} (h : ¬ x.size = 0) : x.toList.isEmpty = false := by
  cases hq : x.toList with
  | nil => exact absurd (toList_nil_iff.1 hq) h
  | cons a b => rfl

set_option maxRecDepth 100000 in
theorem keyByte_any (c : Nat) (hc : c < 256) (w : World) :
    Calls Try.prog 57 #[.int .u8 (c : Int)] w fun e w' => e = .returned (.bool (keyC c)) ∧ w = w' := by
  rcases hq : keyC c with _ | _
  · have hn := keyC_no hq
    clear hq
    have t : ((c : Int) == 47) = false := int_beq_f (by omega)
    go_enter Try.func57, Try.ntmps57
    go_wp2_with fail
    all_goals first | (exfalso; omega) | skip
    all_goals go_ret
    all_goals first | (refine ⟨?_, rfl⟩; simp; omega) | exact ⟨rfl, rfl⟩
  · have hy := keyC_yes hq
    clear hq
    by_cases h1 : 97 ≤ c
    · have h2 : c ≤ 122 := by omega
      have e1 : decide ((97 : Int) ≤ (c : Int)) = true := decide_eq_true (by omega)
      have e2 : decide ((c : Int) ≤ 122) = true := decide_eq_true (by omega)
      clear hy
      go_enter Try.func57, Try.ntmps57
      go_wp2_with fail
      all_goals first | (exfalso; omega) | skip
      all_goals go_ret
      all_goals exact ⟨rfl, rfl⟩
    · by_cases h3 : 48 ≤ c
      · have h4 : c ≤ 57 := by omega
        have e2 : decide ((c : Int) ≤ 57) = true := decide_eq_true (by omega)
        clear hy
        go_enter Try.func57, Try.ntmps57
        go_wp2_with fail
        all_goals first | (exfalso; omega) | skip
        all_goals go_ret
        all_goals exact ⟨rfl, rfl⟩
      · obtain rfl : c = 47 := by omega
        clear hy h1 h3
        go_enter Try.func57, Try.ntmps57
        go_wp2_with fail
        all_goals go_ret
        all_goals exact ⟨rfl, rfl⟩
set_option maxRecDepth 100000 in
theorem key8_any (s : ByteArray) (hs : s.size ≤ 9223372036854775807) (w : World) :
    Calls Try.prog 51 #[.string s] w fun e w' => e = .returned (.bool (keyS s)) ∧ w = w' := by
  by_cases h0 : s.size = 0
  · have he : s.toList = [] := toList_nil h0
    have HF := Lib.hid (keyS_short (p := s) (by omega))
    clear h0
    go_enter Try.func51, Try.ntmps51
    go_wp2_with fail
    go_ret
    exact ⟨by rw [HF.out]; rfl, rfl⟩
  have he : s.toList.isEmpty = false := toList_some h0
  by_cases h32 : 32 < s.size
  · have HF := Lib.hid (keyS_short (p := s) (by omega))
    go_enter Try.func51, Try.ntmps51
    go_wp2_with fail
    go_ret
    exact ⟨by rw [HF.out]; rfl, rfl⟩
  go_enter Try.func51, Try.ntmps51
  go_wp2_with fail
  go_loopw [13] (fun i wr => wr = w ∧ ∃ k : Nat, k ≤ s.size ∧ i = .int .i64 k ∧ Hid (∀ j (hj : j < s.size), j < k → keyC (s[j]).toNat = true)) (fun i _ => s.size - (intOf i).toNat)
  case atStart => exact ⟨rfl, 0, Nat.zero_le _, rfl, fun j _ h => absurd h (Nat.not_lt_zero _)⟩
  case round =>
    obtain ⟨rfl, k, hk, rfl, hall⟩ := hrel
    by_cases hlt : k < s.size
    · have hb : (s[k]).toNat < 256 := UInt8.toNat_lt _
      have h1 := keyByte_any (s[k]).toNat hb wr
      rcases hq : keyC (s[k]).toNat with _ | _
      · rw [hq] at h1
        have HF := Lib.hid (keyS_bad hlt hq)
        have H1 := Lib.hid h1
        clear hq h1
        go_wp2_with fail
        refine H1.out.mono ?_
        rintro e w1 ⟨rfl, rfl⟩
        go_wp2_with fail
        go_ret
        exact ⟨by rw [HF.out]; rfl, rfl⟩
      · have HA : Hid (∀ j (hj : j < s.size), j < k + 1 → keyC (s[j]).toNat = true) := by
          intro j hj hjk
          by_cases e : j = k
          · subst e; exact hq
          · exact hall j hj (by omega)
        rw [hq] at h1
        have H1 := Lib.hid h1
        clear hq h1
        go_wp2_with fail
        refine H1.out.mono ?_
        rintro e w1 ⟨rfl, rfl⟩
        go_wp2_with fail
        go_roundw
        case rel => exact ⟨by trivial, k + 1, by omega, by go_num, HA⟩
        case measure => simp [intOf]; omega
    · have HF := Lib.hid (keyS_good (p := s) (by omega) (fun j hj => hall j hj (by omega)))
      go_wp2_with fail
      go_ret
      exact ⟨by rw [HF.out]; rfl, rfl⟩
set_option maxRecDepth 100000 in
theorem rkey8_any (s : ByteArray) (hs : s.size ≤ 9223372036854775807) (w : World) :
    Calls Try.prog 39 #[.string s] w fun e w' => e = .returned (.bool (keyS s)) ∧ w = w' := by
  by_cases h0 : s.size < 1
  · have HF := Lib.hid (keyS_short (p := s) (by omega))
    go_enter Try.func39, Try.ntmps39
    go_wp2_with fail
    go_ret
    exact ⟨by rw [HF.out]; rfl, rfl⟩
  by_cases h32 : 32 < s.size
  · have HF := Lib.hid (keyS_short (p := s) (by omega))
    go_enter Try.func39, Try.ntmps39
    go_wp2_with fail
    go_ret
    exact ⟨by rw [HF.out]; rfl, rfl⟩
  go_enter Try.func39, Try.ntmps39
  go_wp2_with fail
  go_loop [3] (fun i => ∃ k : Nat, k ≤ s.size ∧ i = .int .i64 k ∧ Hid (∀ j (hj : j < s.size), j < k → keyC (s[j]).toNat = true)) (fun i => s.size - (intOf i).toNat)
  case atStart => exact ⟨0, Nat.zero_le _, rfl, fun j _ h => absurd h (Nat.not_lt_zero _)⟩
  case round =>
    obtain ⟨k, hk, rfl, hall⟩ := hrel
    by_cases hlt : k < s.size
    · have hb : (s[k]).toNat < 256 := UInt8.toNat_lt _
      rcases hq : keyC (s[k]).toNat with _ | _
      · have hn := keyC_no hq
        have t : ((s[k].toNat : Int) != 47) = true := int_bne_t (by omega)
        have HF := Lib.hid (keyS_bad hlt hq)
        clear hq
        go_wp2_with fail
        all_goals first | (exfalso; omega) | skip
        all_goals go_ret
        all_goals exact ⟨by rw [HF.out]; rfl, rfl⟩
      · have hy := keyC_yes hq
        have HA : Hid (∀ j (hj : j < s.size), j < k + 1 → keyC (s[j]).toNat = true) := by
          intro j hj hjk
          by_cases e : j = k
          · subst e; exact hq
          · exact hall j hj (by omega)
        clear hq
        by_cases h47 : s[k].toNat = 47
        · have t : ((s[k].toNat : Int) != 47) = false := int_bne_f (by omega)
          go_wp2_with fail
          all_goals first | (exfalso; omega) | skip
          all_goals
            go_round
            case rel => exact ⟨k + 1, by omega, by go_num, HA⟩
            case measure => simp [intOf]; omega
        · have t : ((s[k].toNat : Int) != 47) = true := int_bne_t (by omega)
          go_wp2_with fail
          all_goals first | (exfalso; omega) | skip
          all_goals
            go_round
            case rel => exact ⟨k + 1, by omega, by go_num, HA⟩
            case measure => simp [intOf]; omega
    · have HF := Lib.hid (keyS_good (p := s) (by omega) (fun j hj => hall j hj (by omega)))
      go_wp2_with fail
      go_ret
      exact ⟨by rw [HF.out]; rfl, rfl⟩

/-- The number of a member's word, else -1. -/
def memberZ (s : ByteArray) : Int := if h : s.size = 1 then (if 48 ≤ (s[0]'(by omega)).toNat ∧ (s[0]'(by omega)).toNat ≤ 55 then ((s[0]'(by omega)).toNat : Int) - 48 else -1) else -1
theorem member_no {s : ByteArray} (h : ¬ s.size = 1) : memberZ s = -1 := by unfold memberZ; rw [dif_neg h]
theorem member_out {s : ByteArray} (h : 0 < s.size) (hn : ¬ (48 ≤ s[0].toNat ∧ s[0].toNat ≤ 55)) : memberZ s = -1 := by
  unfold memberZ
  split
  · first | rfl | exact if_neg hn
  · rfl
theorem member_in {s : ByteArray} (h : 0 < s.size) (h1 : s.size = 1) (hn : 48 ≤ s[0].toNat ∧ s[0].toNat ≤ 55) : memberZ s = (s[0].toNat : Int) - 48 := by
  unfold memberZ
  rw [dif_pos h1, if_pos hn]
theorem member_range (s : ByteArray) : -1 ≤ memberZ s ∧ memberZ s < 8 := by
  unfold memberZ
  split
  · split <;> omega
  · omega
set_option maxRecDepth 100000 in
theorem member8_any (s : ByteArray) (w : World) :
    Calls Try.prog 53 #[.string s] w fun e w' => e = .returned (.int .i64 (memberZ s)) ∧ w = w' := by
  by_cases h1 : s.size = 1
  · have h0 : 0 < s.size := by omega
    have t1 : ((s.size : Int) != 1) = false := int_bne_f (by omega)
    have hb : (s[0]).toNat < 256 := UInt8.toNat_lt _
    by_cases hn : 48 ≤ s[0].toNat ∧ s[0].toNat ≤ 55
    · have HF := Lib.hid (member_in h0 h1 hn)
      have n1 : (48 : Int) ≤ (s[0].toNat : Int) := by omega
      have n2 : (s[0].toNat : Int) < 56 := by omega
      have h0' : (0 : Int) < (s.size : Int) := by omega
      clear hn h1
      go_enter Try.func53, Try.ntmps53
      go_wp2_with fail
      all_goals first | (exfalso; omega) | skip
      all_goals go_ret
      all_goals exact ⟨by rw [HF.out]; rfl, rfl⟩
    · have HF := Lib.hid (member_out h0 hn)
      have h0' : (0 : Int) < (s.size : Int) := by omega
      clear h1
      go_enter Try.func53, Try.ntmps53
      go_wp2_with fail
      all_goals first | (exfalso; omega) | skip
      all_goals go_ret
      all_goals exact ⟨by rw [HF.out]; rfl, rfl⟩
  · have t1 : ((s.size : Int) != 1) = true := int_bne_t (by omega)
    have HF := Lib.hid (member_no h1)
    clear h1
    go_enter Try.func53, Try.ntmps53
    go_wp2_with fail
    go_ret
    exact ⟨by rw [HF.out]; rfl, rfl⟩
set_option maxRecDepth 100000 in
theorem rmember8_any (s : ByteArray) (w : World) :
    Calls Try.prog 40 #[.string s] w fun e w' => e = .returned (.int .i64 (memberZ s)) ∧ w = w' := by
  by_cases h1 : s.size = 1
  · have h0 : 0 < s.size := by omega
    have t1 : ((s.size : Int) != 1) = false := int_bne_f (by omega)
    have hb : (s[0]).toNat < 256 := UInt8.toNat_lt _
    by_cases hn : 48 ≤ s[0].toNat ∧ s[0].toNat ≤ 55
    · have HF := Lib.hid (member_in h0 h1 hn)
      have n1 : (48 : Int) ≤ (s[0].toNat : Int) := by omega
      have n2 : (s[0].toNat : Int) ≤ 55 := by omega
      have h0' : (0 : Int) < (s.size : Int) := by omega
      clear hn h1
      go_enter Try.func40, Try.ntmps40
      go_wp2_with fail
      all_goals first | (exfalso; omega) | skip
      all_goals go_ret
      all_goals exact ⟨by rw [HF.out]; rfl, rfl⟩
    · have HF := Lib.hid (member_out h0 hn)
      have h0' : (0 : Int) < (s.size : Int) := by omega
      clear h1
      go_enter Try.func40, Try.ntmps40
      go_wp2_with fail
      all_goals first | (exfalso; omega) | skip
      all_goals go_ret
      all_goals exact ⟨by rw [HF.out]; rfl, rfl⟩
  · have t1 : ((s.size : Int) != 1) = true := int_bne_t (by omega)
    have HF := Lib.hid (member_no h1)
    clear h1
    go_enter Try.func40, Try.ntmps40
    go_wp2_with fail
    go_ret
    exact ⟨by rw [HF.out]; rfl, rfl⟩
def amtB (n : Int) : Bool := decide (1 ≤ n ∧ n ≤ 1099511627776)
set_option maxRecDepth 100000 in
theorem amount_any (n : Int) (w : World) :
    Calls Try.prog 52 #[.int .i64 n] w fun e w' => e = .returned (.bool (amtB n)) ∧ w = w' := by
  by_cases h1 : 1 ≤ n
  · have e1 : decide (1 ≤ n) = true := decide_eq_true h1
    by_cases h2 : n ≤ 1099511627776
    · have e2 : decide (n ≤ 1099511627776) = true := decide_eq_true h2
      have HF := Lib.hid (show amtB n = true from decide_eq_true ⟨h1, h2⟩)
      go_enter Try.func52, Try.ntmps52
      go_wp2_with fail
      go_ret
      exact ⟨by rw [HF.out]; rfl, rfl⟩
    · have e2 : decide (n ≤ 1099511627776) = false := decide_eq_false h2
      have HF := Lib.hid (show amtB n = false from decide_eq_false (fun h => h2 h.2))
      go_enter Try.func52, Try.ntmps52
      go_wp2_with fail
      go_ret
      exact ⟨by rw [HF.out]; rfl, rfl⟩
  · have e1 : decide (1 ≤ n) = false := decide_eq_false h1
    have HF := Lib.hid (show amtB n = false from decide_eq_false (fun h => h1 h.1))
    go_enter Try.func52, Try.ntmps52
    go_wp2_with fail
    go_ret
    exact ⟨by rw [HF.out]; rfl, rfl⟩
end Go.Proofs.Ytjpiemgpbakfaaa
