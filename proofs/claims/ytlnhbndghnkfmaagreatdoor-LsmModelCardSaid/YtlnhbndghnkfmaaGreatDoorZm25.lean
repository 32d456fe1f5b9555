/- Walks: a new file's draft. -/
import Derived.Test.YtlnhbndghnkfmaaGreatDoorZm24
namespace Go.Proofs.YtlnhbndghnkfmaaGreatDoor
open Go.RowKit

set_option maxRecDepth 100000 in
theorem mem_insertIdx' {α : Type} {L : List α} {i : Nat} {x y : α} (h : y ∈ L.insertIdx i x) : y = x ∨ y ∈ L := by
  induction L generalizing i with
  | nil => cases i with
    | zero => exact .inl (List.mem_singleton.1 h)
    | succ i => cases h
  | cons a L ih => cases i with
    | zero =>
      rcases List.mem_cons.1 h with h | h
      · exact .inl h
      · exact .inr h
    | succ i =>
      rw [List.insertIdx_succ_cons] at h
      rcases List.mem_cons.1 h with h | h
      · exact .inr (by rw [h]; exact List.mem_cons_self)
      · rcases ih h with h | h
        · exact .inl h
        · exact .inr (List.mem_cons_of_mem _ h)
set_option maxRecDepth 100000 in
theorem Sep.insert {M : List FB} {i : Nat} {p : FB} (h : Sep M) (hp : p.2.ownBlock = none) : Sep (M.insertIdx i p) := by
  induction M generalizing i with
  | nil => cases i with
    | zero => exact List.pairwise_singleton _ _
    | succ i => exact List.Pairwise.nil
  | cons a M ih => cases i with
    | zero => exact List.pairwise_cons.2 ⟨fun q _ g e => (by rw [hp] at e; cases e), h⟩
    | succ i =>
      obtain ⟨h1, h2⟩ := List.pairwise_cons.1 h
      rw [List.insertIdx_succ_cons]
      refine List.pairwise_cons.2 ⟨fun q hq g e => ?_, ih h2⟩
      rcases mem_insertIdx' hq with e2 | e2
      · rw [e2, hp]; simp
      · exact h1 q e2 g e
set_option maxRecDepth 100000 in
theorem BO.nil (w : World) (B : Nat) (nm : ByteArray) : BO w B (nz nm) := World.ownsRow_nil w B 5 1
set_option maxRecDepth 100000 in
theorem DR.insert {w w' : World} {B i : Nat} {v v' : Value} {M : List FB} {nm : ByteArray} (h : DR w B v M) (hr : RO w' B v' (M.insertIdx i (nz nm))) (hk : Kp v.ownBlock w w') : DR w' B v' (M.insertIdx i (nz nm)) := by
  refine ⟨hr, fun q hq => ?_, h.sep.insert rfl⟩
  rcases mem_insertIdx' hq with e | e
  · rw [e]; exact BO.nil _ _ _
  · refine own_kp (h.bytes q e) hk ?_
    cases hq2 : q.2.ownBlock with
    | none => exact .inl rfl
    | some x => exact .inr (fun e2 => own_types (h.bytes q e) h.row (by decide) hq2 e2.symm)
set_option maxRecDepth 100000 in
theorem insert_get (M : List FB) (i : Nat) (p : FB) (hi : i ≤ M.length) : ∃ h : i < (M.insertIdx i p).length, (M.insertIdx i p)[i] = p := by
  have hl : i < (M.insertIdx i p).length := by rw [List.length_insertIdx, if_pos hi]; omega
  refine ⟨hl, ?_⟩
  have := List.getElem_insertIdx_self (l := M) (i := i) (x := p) hl
  exact this
set_option maxRecDepth 100000 in
theorem insert_set (M : List FB) (i : Nat) (p q : FB) (hi : i ≤ M.length) : (M.insertIdx i p).set i q = M.insertIdx i q := by
  induction M generalizing i with
  | nil => obtain rfl : i = 0 := by simpa using hi
           rfl
  | cons a M ih => cases i with
    | zero => rfl
    | succ i => rw [List.insertIdx_succ_cons, List.insertIdx_succ_cons, List.set_cons_succ, ih i (by simpa using hi)]
set_option maxRecDepth 100000 in
theorem dbox1 (nm : ByteArray) (w : World) : ∃ W, W = w.alloc (.cells #[.string nm, .slice none 0 0, .int .i64 0] 202) ∧ Gr w W ∧ W.ownsRow w.heap.size 202 3 (.slice (some ⟨w.heap.size, 0, none⟩) 1 1) 1 (dcell (nz nm)) ∧ w.heap.size < W.heap.size :=
  ⟨_, rfl, gr_box w _, World.ownsRow_lit (base := w.heap.size) (e := 202) (size := 3) w #[.string nm, .slice none 0 0, .int .i64 0] 1 (Nat.le_refl _) (by unfold maxLen; omega) rfl, by simp⟩
/-- A call's answer: a new file with these bytes. -/
def RetNew (M : List FB) (nm bts : ByteArray) (i B : Nat) (_v : Value) (w : World) (e : Ending) (w' : World) : Prop :=
  ∃ v' M', e = .returned (.tuple #[v', .int .i64 0]) ∧ files M' = (files M).insertIdx i ⟨nm, ⟨#[]⟩, bts⟩ ∧ DR w' B v' M' ∧ Below B w w'

set_option maxRecDepth 100000 in
set_option maxHeartbeats 4000000 in
theorem grow_new (v : Value) (M : List FB) (kd : Int) (nm bts : ByteArray) (at_ : Int) (B : Nat) (w : World) (hv : DR w B v M) (hB : B ≤ w.heap.size) (h64 : ¬ 64 ≤ M.length) (hsz : ¬ 1048576 < bts.size) (hno : ¬ findF (files M) nm < (files M).length) :
    Calls Tryz.prog 183 #[v, .int .i64 (-1), .agg #[.int .i64 kd, .string nm, .string bts, .int .i64 at_]] w fun e w' => RetNew M nm bts (placeF (files M) nm) B v w e w' := by
  obtain ⟨A, c, rfl, hnc, hc63⟩ := own_form hv.row
  have HV := Lib.hid hv
  obtain ⟨W, hW, hG, o0, o1, o2, o3, hz⟩ := obox ⟨kd, nm, bts, at_⟩ w
  dsimp only at o0 o1 o2 o3 hW
  have HG := Lib.hid hG
  have d1 : ¬ (64 : Int) ≤ (M.length : Int) := by omega
  have d2 : ¬ (1048576 : Int) < (bts.size : Int) := by omega
  obtain ⟨n, hn⟩ : ∃ n, n = M.length := ⟨_, rfl⟩
  have HC := Lib.hid (newPlace_any _ M B nm W (hv.gr hG) hno)
  obtain ⟨i, hi⟩ : ∃ i, i = placeF (files M) nm := ⟨_, rfl⟩
  have hin : i ≤ n := by rw [hi, hn]; have := placeF_le (files M) nm; rw [files_len] at this; exact this
  rw [← hi] at HC ⊢
  rw [← hn] at HV HC hnc d1 h64 ⊢
  have HN := Lib.hid hn
  have hlt : ∀ x, (Value.slice A n c).ownBlock = some x → x < w.heap.size := fun x hx => (HV.out.row.lt x (by rw [← hx])).2
  have HLT := Lib.hid hlt
  clear hv hG o0 o3 hn hi hno hlt
  go_enter Tryz.func183, Tryz.ntmps183
  go_upto_region 1 with (fail)
  rw [← hW]
  clear hW
  go_wp2_with fail
  refine HC.out.mono ?_
  rintro e w1 ⟨rfl, g1⟩
  have p1 := g1.cell o1
  have p2 := g1.cell o2
  have HG1 := Lib.hid (HG.out.trans g1)
  have HV1 : Hid (DR w1 B (.slice A n c) M) := Lib.hid (HV.out.gr HG1.out)
  have hz1 : w.heap.size < w1.heap.size := Nat.lt_of_lt_of_le hz g1.size
  obtain ⟨W2, hW2, G2, hx2, hz2⟩ := dbox1 nm w1
  have HX2 := Lib.hid hx2
  have HI := Lib.hid (insert_any (.slice A n c) M B i w1.heap.size w1.heap.size nm W2 (HV1.out.gr G2) (by have := G2.size; omega) (by rw [← HN.out]; exact hin) (by rw [← HN.out]; omega) (fun e => by have := HLT.out _ e; omega) HX2.out)
  have HG2 := Lib.hid (HG1.out.trans G2)
  have HV2 : Hid (DR W2 B (.slice A n c) M) := Lib.hid (HV1.out.gr G2)
  have y2 := G2.cell p2
  have hz3 : w.heap.size < W2.heap.size := by omega
  clear g1 o1 o2 hz hx2 G2 hz2
  go_wp2_with fail
  rw [← hW2]
  clear hW2 p1 p2
  refine HI.out.mono ?_
  rintro e w4 ⟨v4, rfl, hrow4, hat4, hk4⟩
  have HD4 : Hid (DR w4 B v4 (M.insertIdx i (nz nm))) := Lib.hid (HV2.out.insert hrow4 hk4)
  have hbx : (Value.slice A n c).ownBlock ≠ some w.heap.size := fun e => by have := HLT.out _ e; omega
  have x2 := hk4.cell y2 (fun e => hbx e.symm)
  have hz4 : w.heap.size < w4.heap.size := Nat.lt_of_lt_of_le hz3 hk4.size
  have HB4 : Hid (Below B w w4) := Lib.hid (Below.trans (Below.mono HG2.out hB) (hk4.below (by omega) (fun x hx => (HV2.out.row.lt x hx).1)))
  obtain ⟨hlen, hget⟩ := insert_get M i (nz nm) (by rw [← HN.out]; exact hin)
  obtain ⟨g, c4, rfl⟩ := HD4.out.row.addr hlen
  obtain ⟨hnc4, hc634, hBg, hgl⟩ := own_len HD4.out.row
  obtain ⟨q0, q1, q2⟩ := HD4.out.row.at_ hlen
  rw [hget] at q1
  rw [show (nz nm).2 = .slice none 0 0 from rfl] at q1
  have zf : w4.frozen? ⟨g, i * 3 + 1, none⟩ = false := HD4.out.row.free _
  obtain ⟨n4, hn4⟩ : ∃ k, k = (M.insertIdx i (nz nm)).length := ⟨_, rfl⟩
  rw [← hn4] at HD4 hnc4 hlen ⊢
  have HB5 : Hid (B ≤ w4.heap.size) := Lib.hid (by omega)
  have HZ5 : Hid (bts.size ≤ 140737488355328) := Lib.hid (by omega)
  have HN5 : Hid (w4.ownsRow B 5 1 (.slice none 0 0) 0 []) := Lib.hid (World.ownsRow_nil w4 B 5 1)
  clear hrow4 hat4 hk4 y2 hbx q0 q2 hn4 hget
  go_wp2_with fail
  go_region_law
    (refine step_append_b rfl (.tmp 46) (.tmp 48) rfl B (.slice none 0 0) 0 bts.size [] bts (by simp [Act.eval]) HN5.out (by simp [Act.eval]) (Nat.zero_add _) HZ5.out HB5.out ⟨g, i * 3 + 1, none⟩ q1 zf (show g < w4.heap.size from hgl) (by simp [Value.ownBlock]) ?_
     intro A5 c5 w5 hown5 hk5 hat5 r5 z5)
  all_goals
    have HR : Hid (RetNew M nm bts i B (.slice A n c) w (.returned (.tuple #[.slice (some ⟨g, 0, none⟩) n4 c4, .int .i64 0])) (w5.setCell ⟨g, i * 3 + 1, none⟩ (.slice A5 bts.size c5))) := Lib.hid (by
      obtain ⟨hlen, hget⟩ := insert_get M i (nz nm) (by rw [← HN.out]; exact hin)
      refine ⟨.slice (some ⟨g, 0, none⟩) n4 c4, (M.insertIdx i (nz nm)).set i (⟨nm, ⟨#[]⟩, bts⟩, .slice A5 bts.size c5), rfl, ?_, ?_, ?_⟩
      · rw [insert_set M i _ _ (by rw [← HN.out]; exact hin), files_insert]
      · have hd : DR w4.drew B (.slice (some ⟨g, 0, none⟩) n4 c4) (M.insertIdx i (nz nm)) := HD4.out.gr (Gr.refl _).drew
        have hk : Kp (M.insertIdx i (nz nm))[i].2.ownBlock w4.drew w5 := by rw [hget]; exact hk5
        have hsz : (⟨nm, ⟨#[]⟩, bts⟩ : F).size = bts.size := by unfold F.size; exact Nat.zero_add _
        refine DR.put hd hlen hk ?_ ?_ (Kp.set (Kp.refl _ _) (.inr rfl) _ _) (RO.store (own_kp hd.row hk ?_) hlen (r := 1) (by decide) _ _ (by rw [hget]; rfl))
        · show World.ownsRow _ _ _ _ _ _ _
          rw [hsz]
          exact hown5
        · rw [hget]; exact hat5
        · rw [hget]
          exact .inr (fun e => by cases e)
      · exact Below.setCell (Below.trans HB4.out (Below.trans (Below.mono (Gr.refl w4).drew HB5.out) (hk5.below HB5.out (fun x hx => by cases hx)))) (p := ⟨g, i * 3 + 1, none⟩) hBg _)
    clear hown5 hk5 hat5
    go_wp2_with fail
    exact bodyPost_ret (v := .tuple #[.slice (some ⟨g, 0, none⟩) n4 c4, .int .i64 0]) (by simp [results, Tryz.results183, go_sem]) rfl HR.out
end Go.Proofs.YtlnhbndghnkfmaaGreatDoor
