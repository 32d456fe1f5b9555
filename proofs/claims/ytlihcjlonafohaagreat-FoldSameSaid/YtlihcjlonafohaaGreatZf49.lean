/- Mathematics of stage 11's picks: whatever is picked, in the end all are. Walks: the document's Same of values, of equal ones. Walk: the law ValueTells. -/
import Derived.Test.YtlihcjlonafohaaGreatZf48
import Derived.Test.YtlihcjlonafohaaGreatZf17
import Derived.Test.YtlihcjlonafohaaGreatZf44
import Derived.Test.YtlihcjlonafohaaGreatZf09
namespace Go.Proofs.YtlihcjlonafohaaGreat
open Go.RowKit Go.Joins
set_option linter.unusedSimpArgs false
set_option linter.unusedVariables false

theorem hasB_iff {d : Nat → Nat} {o : Int} {n : Nat} : hasB d o n = true ↔ 0 ≤ o ∧ o < 8 ∧ 1 ≤ n ∧ n ≤ d o.toNat := by
  unfold hasB
  simp only [Bool.and_eq_true, decide_eq_true_eq, and_assoc]
/-- What is picked, and what is counted of it. -/
structure PickI (O P : List TX) (d : Nat → Nat) : Prop where
  sub : ∀ t ∈ P, t ∈ O
  seq : ∀ t ∈ P, t.seq ≤ d t.origin.toNat
  dep : ∀ t ∈ P, ∀ i, i < 8 → t.deps i ≤ d i
  ns : P.Pairwise NSee
  all : ∀ t ∈ O, t.seq ≤ d t.origin.toNat → t ∈ P
  le : ∀ i, i < 8 → d i ≤ 1024
theorem sub_all : ∀ {P O : List TX}, P.Nodup → (∀ x ∈ P, x ∈ O) → O.length ≤ P.length → ∀ x ∈ O, x ∈ P
  | [], O, _, _, hl, x, hx => by
    have : O = [] := List.length_eq_zero_iff.1 (by simpa using hl)
    rw [this] at hx; simp at hx
  | a :: P, O, hn, hs, hl, x, hx => by
    obtain ⟨O1, O2, rfl⟩ := List.append_of_mem (hs a (by simp))
    obtain ⟨h1, h2⟩ := List.nodup_cons.1 hn
    have ih := sub_all (O := O1 ++ O2) h2 (fun y hy => by
      have := hs y (List.mem_cons_of_mem _ hy)
      rw [List.mem_append, List.mem_cons] at this
      rw [List.mem_append]
      rcases this with h | h | h
      · exact .inl h
      · subst h; exact absurd hy h1
      · exact .inr h) (by simp only [List.length_append, List.length_cons] at hl ⊢; omega)
    rw [List.mem_append, List.mem_cons] at hx
    rcases hx with h | h | h
    · exact List.mem_cons_of_mem _ (ih x (by simp [h]))
    · subst h; simp
    · exact List.mem_cons_of_mem _ (ih x (by simp [h]))
theorem ns_nodup {P : List TX} (h : P.Pairwise NSee) : P.Nodup := h.imp fun {a b} hab e => by subst e; exact hab.1 ⟨rfl, rfl⟩
section
variable {l : LG} {cv : Nat → Nat}
theorem pick_start (hl : OkL l) : PickI (ordR l cv) [] (fun _ => 0) where
  sub := fun t h => by simp at h
  seq := fun t h => by simp at h
  dep := fun t h => by simp at h
  ns := List.Pairwise.nil
  all := fun t h hs => by
    obtain ⟨i, c, hi, -, hlc⟩ := ordR_mem.1 h
    obtain ⟨-, -, h3, -⟩ := hl.tx i c t hi hlc
    exfalso
    have : t.seq ≤ 0 := hs
    omega
  le := fun i _ => Nat.zero_le _
/-- While not all are picked, one can be. -/
theorem pick_some (hl : OkL l) (hc : closedP l cv) {P : List TX} {d : Nat → Nat} (h : PickI (ordR l cv) P d) (hlen : P.length < (ordR l cv).length) : ∃ (k : Nat) (hk : k < (ordR l cv).length), pickB d (ordR l cv)[k] = true := by
  have hne : ∃ k, ∃ hk : k < (ordR l cv).length, ¬ (ordR l cv)[k] ∈ P := by
    refine Classical.byContradiction fun hno => ?_
    have hall : ∀ x ∈ ordR l cv, x ∈ P := fun x hx => by
      obtain ⟨k, hk, rfl⟩ := List.mem_iff_getElem.1 hx
      exact Classical.byContradiction fun hn => hno ⟨k, hk, hn⟩
    have hle : (ordR l cv).length ≤ P.length := by
      have hp : ∀ (A B : List TX), A.Nodup → (∀ x ∈ A, x ∈ B) → A.length ≤ B.length := by
        intro A
        induction A with
        | nil => intro B _ _; exact Nat.zero_le _
        | cons a A ih =>
          intro B hn hs
          obtain ⟨B1, B2, rfl⟩ := List.append_of_mem (hs a (by simp))
          obtain ⟨h1, h2⟩ := List.nodup_cons.1 hn
          have := ih (B1 ++ B2) h2 fun y hy => by
            have := hs y (List.mem_cons_of_mem _ hy)
            rw [List.mem_append, List.mem_cons] at this
            rw [List.mem_append]
            rcases this with h | h | h
            · exact .inl h
            · subst h; exact absurd hy h1
            · exact .inr h
          simp only [List.length_append, List.length_cons] at this ⊢
          omega
      exact hp _ _ (ns_nodup (ord_ns hl cv)) hall
    omega
  obtain ⟨k, ⟨hk, hnk⟩, hmin⟩ : ∃ k, (∃ hk : k < (ordR l cv).length, ¬ (ordR l cv)[k] ∈ P) ∧ ∀ k', k' < k → ∀ hk : k' < (ordR l cv).length, (ordR l cv)[k'] ∈ P := by
    obtain ⟨k0, hk0⟩ := hne
    induction k0 using Nat.strongRecOn with
    | _ k0 ih =>
      by_cases hx : ∃ k', k' < k0 ∧ ∃ hk : k' < (ordR l cv).length, ¬ (ordR l cv)[k'] ∈ P
      · obtain ⟨k', h1, h2⟩ := hx
        exact ih k' h1 h2
      · exact ⟨k0, hk0, fun k' h1 hk => Classical.byContradiction fun hn => hx ⟨k', h1, hk, hn⟩⟩
  refine ⟨k, hk, ?_⟩
  obtain ⟨t, ht⟩ : ∃ t, t = (ordR l cv)[k] := ⟨_, rfl⟩
  rw [← ht] at hnk ⊢
  have htm : t ∈ ordR l cv := by rw [ht]; exact List.getElem_mem hk
  obtain ⟨i, c, hi, hcv, hlc⟩ := ordR_mem.1 htm
  obtain ⟨-, h2, h3, h4, -⟩ := hl.tx i c t hi hlc
  unfold pickB
  rw [Bool.and_eq_true, Bool.not_eq_true']
  refine ⟨?_, ?_⟩
  · rw [Bool.eq_false_iff]
    intro hh
    exact hnk (h.all t htm (hasB_iff.1 hh).2.2.2)
  · refine lq_of fun j hj => ?_
    rcases Nat.eq_zero_or_pos (t.deps j) with h0 | h0
    · omega
    obtain ⟨m, hm⟩ : ∃ m, t.deps j = m + 1 := ⟨t.deps j - 1, by omega⟩
    have hmz : m < (l j).length := by have := lq h4 hj; unfold sizeV at this; omega
    have hu : (l j)[m]? = some (l j)[m] := List.getElem?_eq_getElem hmz
    have hst := hl.before hi hj hlc hu hm
    have hdv : t.deps j ≤ cv j := by
      have hlq := hc.2 i c t hi hcv hlc
      exact lq hlq hj
    have hum : (l j)[m] ∈ ordR l cv := ordR_mem.2 ⟨j, m, hj, by omega, hu⟩
    obtain ⟨k', hk', he⟩ := List.mem_iff_getElem.1 hum
    have hlt : k' < k := by
      have hs : (ordR l cv).Pairwise AhP := ordTo_sorted hl _ 8 (Nat.le_refl _)
      rcases Nat.lt_trichotomy k' k with q | q | q
      · exact q
      · exfalso
        subst q
        rw [← ht] at he
        rw [← he] at hst
        omega
      · exfalso
        have := List.pairwise_iff_getElem.1 hs k k' hk hk' q
        rw [he, ← ht] at this
        unfold AhP at this
        omega
    have hmem := hmin k' hlt hk'
    rw [he] at hmem
    have := h.seq _ hmem
    obtain ⟨-, g2, g3, -⟩ := hl.tx j m _ hj hu
    rw [g2, g3] at this
    simpa [hm] using this
theorem pick_next (hl : OkL l) {P : List TX} {d : Nat → Nat} (h : PickI (ordR l cv) P d) {t : TX} (htm : t ∈ ordR l cv) (hp : pickB d t = true) : ∃ i, i < 8 ∧ t.origin = ((i : Nat) : Int) ∧ PickI (ordR l cv) (P ++ [t]) (upd d i (d i + 1)) := by
  obtain ⟨i, c, hi, hcv, hlc⟩ := ordR_mem.1 htm
  obtain ⟨-, h2, h3, h4, -⟩ := hl.tx i c t hi hlc
  unfold pickB at hp
  rw [Bool.and_eq_true, Bool.not_eq_true'] at hp
  have hti : t.origin.toNat = i := by omega
  have hd : d i = c := by
    have h5 : ¬ (0 ≤ t.origin ∧ t.origin < 8 ∧ 1 ≤ t.seq ∧ t.seq ≤ d t.origin.toNat) := fun hh => by
      have := hasB_iff.2 hh
      rw [hp.1] at this
      cases this
    rw [hti] at h5
    have h6 := lq hp.2 hi
    have h7 := hl.own hi hlc
    omega
  have hup : ∀ j, d j ≤ upd d i (d i + 1) j := fun j => by unfold upd; split <;> (try subst_vars) <;> omega
  have hui : upd d i (d i + 1) i = c + 1 := by unfold upd; rw [if_pos rfl, hd]
  refine ⟨i, hi, h2, ⟨fun x hx => ?_, fun x hx => ?_, fun x hx j hj => ?_, ?_, fun x hx hs => ?_, fun j hj => ?_⟩⟩
  · rcases List.mem_append.1 hx with hx | hx
    · exact h.sub x hx
    · rw [List.mem_singleton.1 hx]; exact htm
  · rcases List.mem_append.1 hx with hx | hx
    · exact Nat.le_trans (h.seq x hx) (hup _)
    · rw [List.mem_singleton.1 hx, hti, hui, h3]; exact Nat.le_refl _
  · rcases List.mem_append.1 hx with hx | hx
    · exact Nat.le_trans (h.dep x hx j hj) (hup _)
    · rw [List.mem_singleton.1 hx]; exact Nat.le_trans (lq hp.2 hj) (hup _)
  · refine List.pairwise_append.2 ⟨h.ns, List.pairwise_singleton _ _, fun a ha b hb => ?_⟩
    rw [List.mem_singleton.1 hb]
    refine ⟨fun e => ?_, ?_⟩
    · have := h.seq a ha
      rw [e.1, hti] at this
      omega
    · rw [Bool.eq_false_iff]
      intro hh
      have h5 := (hasB_iff.1 hh).2.2.2
      rw [hti] at h5
      have := h.dep a ha i hi
      omega
  · by_cases he : x.origin.toNat = i
    · rw [he, hui] at hs
      by_cases hq : x.seq ≤ d i
      · exact List.mem_append.2 (.inl (h.all x hx (by rw [he]; exact hq)))
      · obtain ⟨i', c', hi', -, hlc'⟩ := ordR_mem.1 hx
        obtain ⟨-, g2, g3, -⟩ := hl.tx i' c' x hi' hlc'
        have e1 : i' = i := by omega
        have e2 : c' = c := by omega
        subst e1 e2
        rw [hlc] at hlc'
        rw [Option.some.inj hlc']
        simp
    · refine List.mem_append.2 (.inl (h.all x hx ?_))
      unfold upd at hs
      rwa [if_neg he] at hs
  · unfold upd
    split
    · rw [hd]
      have := (List.getElem?_eq_some_iff.1 hlc).1
      have := hl.len i hi
      omega
    · exact h.le j hj
/-- When as many are picked as there are, the state is the same. -/
theorem pick_end (hl : OkL l) {P : List TX} {d : Nat → Nat} (h : PickI (ordR l cv) P d) (hlen : P.length = (ordR l cv).length) {k : Int} (hk : knownB k = true) (start : Int) (key : ByteArray) : foldS k start key P = foldS k start key (ordR l cv) := by
  rw [foldS_st hk, foldS_st hk]
  have hall := sub_all (ns_nodup h.ns) h.sub (by omega)
  refine stD_same hk start (dsP_pw h.ns) (dsP_pw (ord_ns hl cv)) fun x => ?_
  rw [dsP_mem, dsP_mem]
  exact ⟨fun ⟨h1, h2⟩ => ⟨h.sub _ h1, h2⟩, fun ⟨h1, h2⟩ => ⟨hall _ h1, h2⟩⟩
end
end Go.Proofs.YtlihcjlonafohaaGreat
namespace Go.Proofs.YtlihcjlonafohaaGreat
open Go.RowKit Go.Joins
set_option linter.unusedSimpArgs false
set_option linter.unusedVariables false

set_option maxRecDepth 100000 in
set_option maxHeartbeats 4000000 in
theorem same10_any (n : Int) (on : Bool) (A1 A2 : Option Addr) (m c1 c2 : Nat) (E : List ByteArray) (w : World) (hm : m = E.length) (h1 : SV w (.slice A1 m c1) E) (h2 : SV w (.slice A2 m c2) E) :
    Calls Tryz.prog 19 #[.agg #[.int .i64 n, .slice A1 m c1, .bool on], .agg #[.int .i64 n, .slice A2 m c2, .bool on]] w fun e w' => e = .returned (.bool true) ∧ Gr w w' := by
  obtain ⟨W, hW, hg, hb1, hb2⟩ : ∃ W, W = (w.alloc (.cells #[.int .i64 n, .slice A1 m c1, .bool on] 49)).alloc (.cells #[.int .i64 n, .slice A2 m c2, .bool on] 49) ∧ Gr w W ∧
      W.heap[w.heap.size]? = some (.cells #[.int .i64 n, .slice A1 m c1, .bool on] 49 (0, 0)) ∧ W.heap[w.heap.size + 1]? = some (.cells #[.int .i64 n, .slice A2 m c2, .bool on] 49 (0, 0)) := by
    refine ⟨_, rfl, ((Gr.refl w).alloc _).alloc _, ?_, ?_⟩ <;> (simp only [World.alloc, Array.getElem?_push, Array.size_push]; simp)
  have HB1 := Lib.hid hb1
  have HB2 := Lib.hid hb2
  have HG := Lib.hid hg
  have HM := Lib.hid hm
  obtain ⟨Ax, cx, e1, -, ⟨hm1, -⟩, hat1⟩ := h1.gr hg
  obtain ⟨Ay, cy, e2, -, -, hat2⟩ := h2.gr hg
  injection e1 with a1 a2 a3
  injection e2 with b1 b2 b3
  subst a1 a3 b1 b3
  have HA1 : Hid (∀ j (hj : j < E.length), ∃ b off, A1 = some ⟨b, off, none⟩ ∧ W.cell? ⟨b, off + j, none⟩ = some (.string E[j])) := Lib.hid hat1
  have HA2 : Hid (∀ j (hj : j < E.length), ∃ b off, A2 = some ⟨b, off, none⟩ ∧ W.cell? ⟨b, off + j, none⟩ = some (.string E[j])) := Lib.hid hat2
  have x0 : W.cell? ⟨w.heap.size, 0, none⟩ = some (.int .i64 n) := by rw [cell_of_block hb1]; rfl
  have x1 : W.cell? ⟨w.heap.size, 1, none⟩ = some (.slice A1 m c1) := by rw [cell_of_block hb1]; rfl
  have x2 : W.cell? ⟨w.heap.size, 2, none⟩ = some (.bool on) := by rw [cell_of_block hb1]; rfl
  have y0 : W.cell? ⟨w.heap.size + 1, 0, none⟩ = some (.int .i64 n) := by rw [cell_of_block hb2]; rfl
  have y1 : W.cell? ⟨w.heap.size + 1, 1, none⟩ = some (.slice A2 m c2) := by rw [cell_of_block hb2]; rfl
  have y2 : W.cell? ⟨w.heap.size + 1, 2, none⟩ = some (.bool on) := by rw [cell_of_block hb2]; rfl
  have hmb : m ≤ 9223372036854775807 := by
    obtain ⟨A', c', hv, h4, ⟨h5, -⟩, -⟩ := h1
    unfold maxLen at h5
    omega
  clear hb1 hb2 hg hm h1 h2 hat1 hat2 a2 b2 hm1
  go_enter Tryz.func19, Tryz.ntmps19
  go_upto_region 1 with (fail)
  rw [← hW]
  clear hW
  go_wp2_with fail
  clear x0 x1 x2 y0 y1 y2
  go_loopw [5] (fun i wr => ∃ j : Nat, j ≤ m ∧ i = .int .i64 j ∧ Hid (Gr W wr)) (fun i _ => m - (intOf i).toNat)
  case atStart => exact ⟨0, Nat.zero_le _, rfl, Lib.hid (Gr.refl _)⟩
  case round =>
    obtain ⟨j, hj, rfl, hst⟩ := hrel
    rename World => wr
    have x1 : wr.cell? ⟨w.heap.size, 1, none⟩ = some (.slice A1 m c1) := by rw [cell_of_block (gr_obj hst.out HB1.out)]; rfl
    have y1 : wr.cell? ⟨w.heap.size + 1, 1, none⟩ = some (.slice A2 m c2) := by rw [cell_of_block (gr_obj hst.out HB2.out)]; rfl
    by_cases hjn : j < m
    · have hj0 : (0 : Int) ≤ (j : Int) := Int.natCast_nonneg _
      have hjn1 : (j : Int) < (m : Int) := by omega
      have hjl : j < E.length := by rw [← HM.out]; exact hjn
      obtain ⟨b, off, hA, q0⟩ := HA1.out j hjl
      subst hA
      obtain ⟨b2, off2, hA, q1⟩ := HA2.out j hjl
      subst hA
      obtain ⟨s, hs⟩ : ∃ s, s = E[j] := ⟨_, rfl⟩
      rw [← hs] at q0 q1
      have q0 := hst.out.cell q0
      have q1 := hst.out.cell q1
      have hee : (s.toList == s.toList) = true := by simp
      have HH := Lib.hid (And.intro x1 (And.intro y1 (And.intro q0 q1)))
      have HGR := Lib.hid hst.out
      clear hs hst q0 q1
      go_upto_region 6 with (fail)
      clear x1 y1
      refine qRegion (fun w' => w'.cell? ⟨w.heap.size, 1, none⟩ = some (.slice (some ⟨b, off, none⟩) m c1) ∧ w'.cell? ⟨w.heap.size + 1, 1, none⟩ = some (.slice (some ⟨b2, off2, none⟩) m c2) ∧ w'.cell? ⟨b, off + j, none⟩ = some (.string s) ∧ w'.cell? ⟨b2, off2 + j, none⟩ = some (.string s) ∧ Gr wr w') (by kernel_rfl) (by kernel_rfl) ⟨(Gr.refl _).drew.cell HH.out.1, (Gr.refl _).drew.cell HH.out.2.1, (Gr.refl _).drew.cell HH.out.2.2.1, (Gr.refl _).drew.cell HH.out.2.2.2, (Gr.refl _).drew⟩ ?_
      iterate 11
        refine qTake (by kernel_rfl) ?_
        apply Exists.intro
        refine ⟨fun wq hq => ?_, ?_⟩
        · go_light
          obtain ⟨d0, d1, d2, d3, -⟩ := hq
          go_simp
          try with_reducible rfl
          done
        try simp only [Act.put, List.setIfInBounds_toArray, List.set_cons_zero, List.set_cons_succ]
      refine qNil ?_
      intro w3 hC
      have HG3 := Lib.hid (HGR.out.trans hC.2.2.2.2)
      clear hC
      go_wp2_with fail
      go_roundw
      case measure => simp [intOf]; omega
      case rel => exact ⟨j + 1, by omega, by go_num, HG3⟩
    · obtain rfl : j = m := by omega
      have HE := Lib.hid hst.out
      clear hst
      go_wp2_with fail
      go_ret
      exact ⟨rfl, HG.out.trans HE.out⟩
end Go.Proofs.YtlihcjlonafohaaGreat
namespace Go.Proofs.YtlihcjlonafohaaGreat
open Go.RowKit Go.Joins
set_option linter.unusedSimpArgs false
set_option linter.unusedVariables false

theorem RetR.form {r : VR} {k : Nat} {w : World} {e : Ending} {w' : World} (h : RetR r k w e w') : ∃ A c, e = .returned (.tuple #[.agg #[.int .i64 r.n, .slice A r.e.length c, .bool r.on], .int .i64 (k : Int)]) ∧ SV w' (.slice A r.e.length c) r.e ∧ Gr w w' := by
  obtain ⟨ve, h1, h2, h3⟩ := h
  obtain ⟨A, c, hv⟩ := sv_form h2
  subst hv
  exact ⟨A, c, h1, h2, h3⟩
theorem wrapT_of {n : Int} (h : -9223372036854775808 ≤ n ∧ n ≤ 9223372036854775807) : wrap64 n = n := by
  unfold wrap64
  omega
end Go.Proofs.YtlihcjlonafohaaGreat
