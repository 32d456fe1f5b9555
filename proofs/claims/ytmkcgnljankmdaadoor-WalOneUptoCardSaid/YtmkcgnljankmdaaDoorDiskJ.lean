/- Walks: a file more, the document's. -/
import Derived.Test.YtmkcgnljankmdaaDoorDiskG
namespace Go.Proofs.YtmkcgnljankmdaaDoor
open Go.RowKit

theorem FV.sl {w : World} {v : Value} {L : List F} (h : FV w v L) : SL w 3 v L.length (fcells L) := by
  obtain ⟨A, c, rfl, h1, h2, h3⟩ := h
  refine ⟨A, c, rfl, h1, h2, fcells_len L, fun j u hu => ?_⟩
  obtain ⟨q, r, hq, hr, rfl, hg⟩ := rows_of fcell 3 fcell_len (by decide) L j u hu
  obtain ⟨b, off, hh, c0, c1, c2⟩ := h3 q hq
  refine ⟨b, off, hh, ?_⟩
  match r, hr with
  | 0, _ =>
    have : (Value.string L[q].name) = u := by simpa [fcell] using hg
    rw [← this, show off + (q * 3 + 0) = off + q * 3 by omega]
    exact c0
  | 1, _ =>
    have : (Value.string L[q].kept) = u := by simpa [fcell] using hg
    rw [← this, show off + (q * 3 + 1) = off + q * 3 + 1 by omega]
    exact c1
  | 2, _ =>
    have : (Value.string L[q].loose) = u := by simpa [fcell] using hg
    rw [← this, show off + (q * 3 + 2) = off + q * 3 + 2 by omega]
    exact c2
theorem elemFile : Tryd.prog.underlying 22 = some (.slice (Tryd.prog.elem 22)) ∧ Tryd.prog.elem 22 = 46 := ⟨by kernel_rfl, by kernel_rfl⟩
theorem sizeFile : ∀ W : World, (sizeOf 46).run Tryd.prog W = .ok 3 W := fun W => by kernel_rfl
theorem slice_from (n c k s : Nat) (hk : k ≤ n) (A : Option Addr) (hs : s = 3 := by rfl) : ∀ W : World, (Instr.slice 22 (.slice A n c) (some (.int .i64 (k : Int))) none none).run Tryd.prog W = .ok (sliced A k n c s) W := by
  intro W
  rw [run_slice_l W _ A n c elemFile.1 .i64 (k : Int) (by omega) (by omega), elemFile.2, sizeFile, hs]
  rfl
def newF (nm : ByteArray) : F := ⟨nm, ⟨#[]⟩, ⟨#[]⟩⟩
theorem insert_parts (L : List F) (i : Nat) (f : F) (h : i ≤ L.length) : L.insertIdx i f = L.take i ++ (f :: L.drop i) := by
  induction L generalizing i with
  | nil => cases i with
    | zero => rfl
    | succ i => simp at h
  | cons g r ih => cases i with
    | zero => rfl
    | succ i => rw [List.insertIdx_succ_cons, List.take_succ_cons, List.drop_succ_cons, ih i (by simpa using h)]; rfl
theorem fcells_insert (L : List F) (i : Nat) (f : F) (h : i ≤ L.length) : fcells (L.insertIdx i f) = (fcells L).take (i * 3) ++ (fcell f ++ (fcells L).drop (i * 3)) := by
  rw [insert_parts L i f h]
  unfold fcells
  rw [rows_take fcell 3 fcell_len, rows_drop fcell 3 fcell_len, List.flatMap_append, List.flatMap_cons]

set_option maxRecDepth 100000 in
set_option maxHeartbeats 1000000 in
theorem radd_any (v : Value) (L : List F) (nm : ByteArray) (w : World) (hv : FV w v L) (hlen : (L.length + 1) * 48 ≤ 140737488355328) :
    Calls Tryd.prog 42 #[.agg #[v], .string nm] w fun e w' => RetDisk (L.insertIdx (placeF L nm) (newF nm)) w e w' := by
  obtain ⟨A, c, hva, l1, ⟨l2, l4⟩, l3⟩ := id hv
  have hc63 : c ≤ 9223372036854775807 := l2
  have HV := Lib.hid hv
  have HA := Lib.hid l3
  subst hva
  clear hv l3 l4 l2
  obtain ⟨n, hn⟩ : ∃ n, n = L.length := ⟨_, rfl⟩
  have HN := Lib.hid hn
  rw [← hn] at HV l1 hlen
  rw [← hn]
  clear hn
  obtain ⟨i0, hi, hz0, hz1, hz2⟩ := info_parts infoFile
  have HI := Lib.hid (And.intro hi (And.intro hz0 (And.intro hz1 hz2)))
  clear hi hz0 hz1 hz2
  have HG := fun A => Lib.hid ((gr_box w (.cells #[.slice A n c] 24)).alloc (.cells #[.slice none 0 0] 24))
  go_enter Tryd.func42, Tryd.ntmps42
  go_wp2_with fail
  go_loop [5] (fun i => ∃ k : Nat, k ≤ n ∧ i = .int .i64 k ∧ Hid (∀ j (hj : j < L.length), j < k → lessS L[j].name nm = true)) (fun i => n - (intOf i).toNat)
  case atStart => exact ⟨0, Nat.zero_le _, rfl, fun j _ h => absurd h (Nat.not_lt_zero _)⟩
  case round =>
    obtain ⟨k, hk, rfl, hall⟩ := hrel
    by_cases hlt : k < n
    · have hkL : k < L.length := by rw [← HN.out]; exact hlt
      obtain ⟨b, off, rfl, hc0, -, -⟩ := HA.out k hkL
      have hc1 := (HG (some ⟨b, off, none⟩)).out.cell hc0
      clear hc0
      obtain ⟨x, hx⟩ : ∃ x, x = L[k].name := ⟨_, rfl⟩
      rw [← hx] at hc1
      rcases hq : lessS x nm with _ | _
      · have ht : Op.bytesLess x.toList nm.toList = false := hq
        have HP : Hid (placeF L nm = k) := placeF_eq hkL (by rw [← hx]; exact hq) (fun j hj => hall j (by omega) hj)
        have HT := Lib.hid (SL.take (k := k) (by have := HV.out.sl; rw [← HN.out] at this; exact this) hk)
        obtain ⟨S, hS⟩ : ∃ S, S = sliced (some ⟨b, off, none⟩) k n c 3 := ⟨_, rfl⟩
        have HSD : Hid (SL w 3 S (n - k) ((fcells L).drop (k * 3))) := by rw [hS]; exact SL.drop (by have := HV.out.sl; rw [← HN.out] at this; exact this) hk
        have HSL := Lib.hid (slice_from n c k 3 hk (some ⟨b, off, none⟩))
        rw [← hS] at HSL
        clear hq hx hkL hall hS
        go_wp2_with (at_builtin; refine wpList_append_sl _ rfl (.tmp 24) (.tmp 28) 22 rfl (w.heap.size + 1 + 1) 46 i0 _ 3 48 Tryd.underlying22 HI.out.1 HI.out.2.1 HI.out.2.2.1 HI.out.2.2.2 rfl (by decide) (.slice none 0 0) 0 [] rfl (World.ownsRow_nil _ _ _ _) _ k _ rfl (HT.out.gr (HG _).out) ?d1 ?d2 ?d3 ?d4 k (Nat.zero_add k) ?_)
        case d1 => exact fun u hu => fcells_one L u (List.mem_of_mem_take hu)
        case d2 => unfold maxLen; omega
        case d3 => omega
        intro A1 c1 w1 hown1 hgr1 hat1
        have G1 : Gr ((w.alloc (.cells #[.slice (some ⟨b, off, none⟩) n c] 24)).alloc (.cells #[.slice none 0 0] 24)) w1 := (gr_of_grown (Below.refl _ _) (World.ownsRow_nil _ _ 46 3) hgr1 (Nat.le_refl _))
        have HO1 : Hid (w1.ownsRow (w.heap.size + 1 + 1) 46 3 (.slice A1 k c1) k ((fcells L).take (k * 3))) := Lib.hid (by simpa using hown1)
        clear hown1 hgr1 hat1
        have b1 : w1.cell? ⟨w.heap.size, 0, none⟩ = some (.slice (some ⟨b, off, none⟩) n c) := G1.cell (by simp)
        have r1 : w1.cell? ⟨w.heap.size + 1, 0, none⟩ = some (.slice none 0 0) := G1.cell (by simp)
        have z1 : w1.frozen? ⟨w.heap.size + 1, 0, none⟩ = false := G1.frozen (by simp) (by simp)
        have hz1 : w.heap.size + 1 + 1 ≤ w1.heap.size := by have := G1.size; simpa using this
        go_wp2_with (at_builtin; refine wpList_append_sl _ rfl (.tmp 30) (.tmp 33) 22 rfl (w.heap.size + 1 + 1) 46 i0 _ 3 48 Tryd.underlying22 HI.out.1 HI.out.2.1 HI.out.2.2.1 HI.out.2.2.2 rfl (by decide) _ k _ rfl (HO1.out.alloc _) _ 1 _ rfl (sl_new _ _ _ 1 3 rfl (by unfold maxLen; omega)) ?e1 ?e2 ?e3 ?e4 (k + 1) rfl ?_)
        case e1 => exact ⟨rfl, rfl⟩
        case e2 => unfold maxLen; omega
        case e3 => omega
        case e4 => simp; omega
        intro A2 c2 w2 hown2 hgr2 _
        have G2 : Below (w.heap.size + 1 + 1) w1 w2 := gr_of_grown (Below.alloc (Below.refl _ _) hz1 _) (HO1.out.alloc _) hgr2 (by simp; omega)
        have HO2 : Hid (w2.ownsRow (w.heap.size + 1 + 1) 46 3 (.slice A2 (k + 1) c2) (k + 1) ((fcells L).take (k * 3) ++ fcell (newF nm))) := Lib.hid (by simpa [fcell, newF] using hown2)
        clear hown2 hgr2
        have b2 : w2.cell? ⟨w.heap.size, 0, none⟩ = some (.slice (some ⟨b, off, none⟩) n c) := (G2.cell (p := ⟨w.heap.size, 0, none⟩) (by show w.heap.size < _; omega)).trans b1
        have r2 : w2.cell? ⟨w.heap.size + 1, 0, none⟩ = some (.slice none 0 0) := (G2.cell (p := ⟨w.heap.size + 1, 0, none⟩) (by show w.heap.size + 1 < _; omega)).trans r1
        have z2 : w2.frozen? ⟨w.heap.size + 1, 0, none⟩ = false := (G2.frozen (p := ⟨w.heap.size + 1, 0, none⟩) (by show w.heap.size + 1 < _; omega)).trans z1
        have hz2 : w.heap.size + 1 + 1 ≤ w2.heap.size := Nat.le_trans hz1 G2.size
        have GG2 : Hid (Below w.heap.size w w2) := Below.trans ((HG _).out.trans G1) (Below.mono (B' := w.heap.size) G2 (by omega))
        have HS2 : Hid (SL w2 3 S (n - k) ((fcells L).drop (k * 3))) := HSD.out.gr GG2.out
        have HN1 : Hid (k + 1 + (n - k) = n + 1) := Lib.hid (by omega)
        clear b1 r1 z1
        have hsl : ∀ W : World, (Instr.slice 22 (.slice (some ⟨b, off, none⟩) n c) (some (.int .i64 (k : Int))) none none).run Tryd.prog W = .ok S W := HSL.out
        go_wp2_with (at_builtin; refine wpList_append_sl _ rfl (.tmp 35) (.tmp 39) 22 rfl (w.heap.size + 1 + 1) 46 i0 _ 3 48 Tryd.underlying22 HI.out.1 HI.out.2.1 HI.out.2.2.1 HI.out.2.2.2 rfl (by decide) _ (k + 1) _ rfl HO2.out S (n - k) _ rfl HS2.out ?f1 ?f2 ?f3 ?f4 (n + 1) HN1.out ?_)
        case f1 => exact fun u hu => fcells_one L u (List.mem_of_mem_drop hu)
        case f2 => unfold maxLen; omega
        case f3 => omega
        case f4 => omega
        intro A3 c3 w3 hown3 hgr3 _
        have G3 : Below (w.heap.size + 1 + 1) w2 w3 := gr_of_grown (Below.refl _ _) HO2.out hgr3 hz2
        have HO3 := Lib.hid hown3
        clear hown3 hgr3
        have r3 : w3.cell? ⟨w.heap.size + 1, 0, none⟩ = some (.slice none 0 0) := (G3.cell (p := ⟨w.heap.size + 1, 0, none⟩) (by show w.heap.size + 1 < _; omega)).trans r2
        have z3 : w3.frozen? ⟨w.heap.size + 1, 0, none⟩ = false := (G3.frozen (p := ⟨w.heap.size + 1, 0, none⟩) (by show w.heap.size + 1 < _; omega)).trans z2
        clear b2 r2 z2 hsl
        go_wp2
        refine bodyPost_ret (v := .agg #[.slice A3 (n + 1) c3]) (by simp [results, Tryd.results42, go_sem, r3]) rfl ⟨_, rfl, ?_, ?_⟩
        · have ho := ownsRow_setCell_below HO3.out (a := ⟨w.heap.size + 1, 0, none⟩) (by show w.heap.size + 1 < _; omega) (.slice A3 (n + 1) c3)
          unfold FO
          rw [List.length_insertIdx_of_le_length (placeF_le _ _), fcells_insert _ _ _ (placeF_le _ _), HP.out, ← HN.out]
          exact own_le (B := w.heap.size + 1 + 1) (B' := w.heap.size) ho (by omega)
        · exact Below.setCell (GG2.out.trans (Below.mono (B' := w.heap.size) G3 (by omega))) (show w.heap.size ≤ w.heap.size + 1 by omega) _
      · have ht : Op.bytesLess x.toList nm.toList = true := hq
        have HA2 : Hid (∀ j (hj : j < L.length), j < k + 1 → lessS L[j].name nm = true) := by
          intro j hj hjk
          by_cases e : j = k
          · subst e; rw [← hx]; exact hq
          · exact hall j hj (by omega)
        clear hq hx hkL hall
        go_wp2_with fail
        go_round
        case rel => exact ⟨k + 1, by omega, by go_num, HA2⟩
        case measure => simp [intOf]; omega
    · have HP : Hid (placeF L nm = k) := by
        have := placeF_none (L := L) (nm := nm) (fun j hj => hall j hj (by rw [← HN.out] at hj; omega))
        show placeF L nm = k
        rw [this, ← HN.out]
        omega
      have HT := Lib.hid (SL.take (k := k) (by have := HV.out.sl; rw [← HN.out] at this; exact this) hk)
      obtain ⟨S, hS⟩ : ∃ S, S = sliced A k n c 3 := ⟨_, rfl⟩
      have HSD : Hid (SL w 3 S (n - k) ((fcells L).drop (k * 3))) := by rw [hS]; exact SL.drop (by have := HV.out.sl; rw [← HN.out] at this; exact this) hk
      have HSL := Lib.hid (slice_from n c k 3 hk A)
      rw [← hS] at HSL
      clear hall hS
      go_wp2_with (at_builtin; refine wpList_append_sl _ rfl (.tmp 24) (.tmp 28) 22 rfl (w.heap.size + 1 + 1) 46 i0 _ 3 48 Tryd.underlying22 HI.out.1 HI.out.2.1 HI.out.2.2.1 HI.out.2.2.2 rfl (by decide) (.slice none 0 0) 0 [] rfl (World.ownsRow_nil _ _ _ _) _ k _ rfl (HT.out.gr (HG _).out) ?dd1 ?dd2 ?dd3 ?dd4 k (Nat.zero_add k) ?_)
      case dd1 => exact fun u hu => fcells_one L u (List.mem_of_mem_take hu)
      case dd2 => unfold maxLen; omega
      case dd3 => omega
      intro A1 c1 w1 hown1 hgr1 hat1
      have G1 : Gr ((w.alloc (.cells #[.slice A n c] 24)).alloc (.cells #[.slice none 0 0] 24)) w1 := (gr_of_grown (Below.refl _ _) (World.ownsRow_nil _ _ 46 3) hgr1 (Nat.le_refl _))
      have HO1 : Hid (w1.ownsRow (w.heap.size + 1 + 1) 46 3 (.slice A1 k c1) k ((fcells L).take (k * 3))) := Lib.hid (by simpa using hown1)
      clear hown1 hgr1 hat1
      have b1 : w1.cell? ⟨w.heap.size, 0, none⟩ = some (.slice A n c) := G1.cell (by simp)
      have r1 : w1.cell? ⟨w.heap.size + 1, 0, none⟩ = some (.slice none 0 0) := G1.cell (by simp)
      have z1 : w1.frozen? ⟨w.heap.size + 1, 0, none⟩ = false := G1.frozen (by simp) (by simp)
      have hz1 : w.heap.size + 1 + 1 ≤ w1.heap.size := by have := G1.size; simpa using this
      go_wp2_with (at_builtin; refine wpList_append_sl _ rfl (.tmp 30) (.tmp 33) 22 rfl (w.heap.size + 1 + 1) 46 i0 _ 3 48 Tryd.underlying22 HI.out.1 HI.out.2.1 HI.out.2.2.1 HI.out.2.2.2 rfl (by decide) _ k _ rfl (HO1.out.alloc _) _ 1 _ rfl (sl_new _ _ _ 1 3 rfl (by unfold maxLen; omega)) ?ee1 ?ee2 ?ee3 ?ee4 (k + 1) rfl ?_)
      case ee1 => exact ⟨rfl, rfl⟩
      case ee2 => unfold maxLen; omega
      case ee3 => omega
      case ee4 => simp; omega
      intro A2 c2 w2 hown2 hgr2 _
      have G2 : Below (w.heap.size + 1 + 1) w1 w2 := gr_of_grown (Below.alloc (Below.refl _ _) hz1 _) (HO1.out.alloc _) hgr2 (by simp; omega)
      have HO2 : Hid (w2.ownsRow (w.heap.size + 1 + 1) 46 3 (.slice A2 (k + 1) c2) (k + 1) ((fcells L).take (k * 3) ++ fcell (newF nm))) := Lib.hid (by simpa [fcell, newF] using hown2)
      clear hown2 hgr2
      have b2 : w2.cell? ⟨w.heap.size, 0, none⟩ = some (.slice A n c) := (G2.cell (p := ⟨w.heap.size, 0, none⟩) (by show w.heap.size < _; omega)).trans b1
      have r2 : w2.cell? ⟨w.heap.size + 1, 0, none⟩ = some (.slice none 0 0) := (G2.cell (p := ⟨w.heap.size + 1, 0, none⟩) (by show w.heap.size + 1 < _; omega)).trans r1
      have z2 : w2.frozen? ⟨w.heap.size + 1, 0, none⟩ = false := (G2.frozen (p := ⟨w.heap.size + 1, 0, none⟩) (by show w.heap.size + 1 < _; omega)).trans z1
      have hz2 : w.heap.size + 1 + 1 ≤ w2.heap.size := Nat.le_trans hz1 G2.size
      have GG2 : Hid (Below w.heap.size w w2) := Below.trans ((HG _).out.trans G1) (Below.mono (B' := w.heap.size) G2 (by omega))
      have HS2 : Hid (SL w2 3 S (n - k) ((fcells L).drop (k * 3))) := HSD.out.gr GG2.out
      have HN1 : Hid (k + 1 + (n - k) = n + 1) := Lib.hid (by omega)
      clear b1 r1 z1
      have hsl : ∀ W : World, (Instr.slice 22 (.slice A n c) (some (.int .i64 (k : Int))) none none).run Tryd.prog W = .ok S W := HSL.out
      go_wp2_with (at_builtin; refine wpList_append_sl _ rfl (.tmp 35) (.tmp 39) 22 rfl (w.heap.size + 1 + 1) 46 i0 _ 3 48 Tryd.underlying22 HI.out.1 HI.out.2.1 HI.out.2.2.1 HI.out.2.2.2 rfl (by decide) _ (k + 1) _ rfl HO2.out S (n - k) _ rfl HS2.out ?ff1 ?ff2 ?ff3 ?ff4 (n + 1) HN1.out ?_)
      case ff1 => exact fun u hu => fcells_one L u (List.mem_of_mem_drop hu)
      case ff2 => unfold maxLen; omega
      case ff3 => omega
      case ff4 => omega
      intro A3 c3 w3 hown3 hgr3 _
      have G3 : Below (w.heap.size + 1 + 1) w2 w3 := gr_of_grown (Below.refl _ _) HO2.out hgr3 hz2
      have HO3 := Lib.hid hown3
      clear hown3 hgr3
      have r3 : w3.cell? ⟨w.heap.size + 1, 0, none⟩ = some (.slice none 0 0) := (G3.cell (p := ⟨w.heap.size + 1, 0, none⟩) (by show w.heap.size + 1 < _; omega)).trans r2
      have z3 : w3.frozen? ⟨w.heap.size + 1, 0, none⟩ = false := (G3.frozen (p := ⟨w.heap.size + 1, 0, none⟩) (by show w.heap.size + 1 < _; omega)).trans z2
      clear b2 r2 z2 hsl
      go_wp2
      refine bodyPost_ret (v := .agg #[.slice A3 (n + 1) c3]) (by simp [results, Tryd.results42, go_sem, r3]) rfl ⟨_, rfl, ?_, ?_⟩
      · have ho := ownsRow_setCell_below HO3.out (a := ⟨w.heap.size + 1, 0, none⟩) (by show w.heap.size + 1 < _; omega) (.slice A3 (n + 1) c3)
        unfold FO
        rw [List.length_insertIdx_of_le_length (placeF_le _ _), fcells_insert _ _ _ (placeF_le _ _), HP.out, ← HN.out]
        exact own_le (B := w.heap.size + 1 + 1) (B' := w.heap.size) ho (by omega)
      · exact Below.setCell (GG2.out.trans (Below.mono (B' := w.heap.size) G3 (by omega))) (show w.heap.size ≤ w.heap.size + 1 by omega) _
end Go.Proofs.YtmkcgnljankmdaaDoor
