/- Stores into a row of files; walks: copies of a disk. Walks: a crash, the program's. Walks: a crash, the document's. Walks: a file more, the document's. Walks: one operation, the document's. Walks: one operation, the document's: the other ways. Walks: one operation, the document's: a file less, a file more. Walks: the operations in order, the document's. -/
import Derived.Test.YtlnhbndghnkfmaaGreatDoorZm11
import Derived.Deep.RegionHeld3
import Derived.Deep.RegionLaw
import Derived.Lib.SliceRun
import Derived.Deep.DeepCutAuto
import Derived.Deep.Cut
import Derived.IntWalk
namespace Go.Proofs.YtlnhbndghnkfmaaGreatDoor
open Go.RowKit

section
variable {w : World} {B g n c : Nat} {L : List F}
theorem FO.len (h : FO w B (.slice (some ⟨g, 0, none⟩) n c) L) : n = L.length ∧ L.length ≤ c ∧ c ≤ 9223372036854775807 ∧ B ≤ g ∧ g < w.heap.size := by
  rcases h.2 with ⟨hh, _⟩ | ⟨g', cap', cur, hh, hb, hg, hn, hm, _⟩
  · cases hh
  · injection hh with h1 h2 h3
    injection h1 with h1
    injection h1 with h1
    subst h1 h2 h3
    exact ⟨rfl, hn, hm, hb, (Array.getElem?_eq_some_iff.1 hg).1⟩
theorem FO.free (h : FO w B (.slice (some ⟨g, 0, none⟩) n c) L) (j : Nat) : w.frozen? ⟨g, j, none⟩ = false := by
  obtain ⟨rfl, _⟩ := h.len
  exact h.frozenAt j
/-- A value that has at least one element lies in a block. -/
theorem FO.addr {v : Value} (h : FO w B v L) {i : Nat} (hi : i < L.length) : ∃ g c, v = .slice (some ⟨g, 0, none⟩) L.length c := by
  obtain ⟨g, c, hv, _⟩ := World.ownsRow.form h (by omega)
  exact ⟨g, c, hv⟩
theorem FO.store (h : FO w B (.slice (some ⟨g, 0, none⟩) n c) L) {i r : Nat} (hi : i < L.length) (hr : r < 3) (f : F) (u : Value) (hf : fcell f = (fcell L[i]).set r u) :
    FO (w.setCell ⟨g, i * 3 + r, none⟩ u) B (.slice (some ⟨g, 0, none⟩) n c) (L.set i f) ∧ w.grownBy (w.setCell ⟨g, i * 3 + r, none⟩ u) (some g) := by
  obtain ⟨rfl, _⟩ := h.len
  obtain ⟨h1, h2⟩ := h.stored (i * 3 + r) u
  refine ⟨?_, h2⟩
  unfold FO
  rw [List.length_set]
  have : fcells (L.set i f) = (fcells L).set (i * 3 + r) u := (rows_set fcell 3 fcell_len L i r hi hr f u hf).symm
  rw [this]
  exact h1
theorem FO.put3 (h : FO w B (.slice (some ⟨g, 0, none⟩) n c) L) {i : Nat} (hi : i < L.length) (f : F) :
    FO (((w.setCell ⟨g, i * 3, none⟩ (.string f.name)).setCell ⟨g, i * 3 + 1, none⟩ (.string f.kept)).setCell ⟨g, i * 3 + 2, none⟩ (.string f.loose)) B (.slice (some ⟨g, 0, none⟩) n c) (L.set i f) := by
  obtain ⟨h1, _⟩ := h.store hi (r := 0) (by decide) ⟨f.name, L[i].kept, L[i].loose⟩ (.string f.name) rfl
  obtain ⟨h2, _⟩ := h1.store (i := i) (by rw [List.length_set]; exact hi) (r := 1) (by decide) ⟨f.name, f.kept, L[i].loose⟩ (.string f.kept) (by rw [List.getElem_set_self]; rfl)
  obtain ⟨h3, _⟩ := h2.store (i := i) (by rw [List.length_set, List.length_set]; exact hi) (r := 2) (by decide) f (.string f.loose) (by rw [List.getElem_set_self]; rfl)
  rw [List.set_set, List.set_set] at h3
  exact h3
theorem FO.put2 (h : FO w B (.slice (some ⟨g, 0, none⟩) n c) L) {i : Nat} (hi : i < L.length) (x y : ByteArray) :
    FO ((w.setCell ⟨g, i * 3 + 1, none⟩ (.string x)).setCell ⟨g, i * 3 + 2, none⟩ (.string y)) B (.slice (some ⟨g, 0, none⟩) n c) (L.set i ⟨L[i].name, x, y⟩) := by
  obtain ⟨h2, _⟩ := h.store hi (r := 1) (by decide) ⟨L[i].name, x, L[i].loose⟩ (.string x) rfl
  obtain ⟨h3, _⟩ := h2.store (i := i) (by rw [List.length_set]; exact hi) (r := 2) (by decide) ⟨L[i].name, x, y⟩ (.string y) (by rw [List.getElem_set_self]; rfl)
  rw [List.set_set] at h3
  exact h3
end

/-- The box of one file. -/
theorem fbox (w : World) (f : F) : FCell (w.alloc (.cells #[.string f.name, .string f.kept, .string f.loose] 63)) w.heap.size 0 f := ⟨by simp, by simp, by simp⟩
def RetFiles (L : List F) (w : World) (e : Ending) (w' : World) : Prop := ∃ v, e = .returned v ∧ FO w' w.heap.size v L ∧ Gr w w'
set_option maxRecDepth 100000 in
theorem sclone_any (v : Value) (L : List F) (w : World) (hv : FV w v L) (hlen : L.length * 48 ≤ 140737488355328) :
    Calls Tryz.prog 106 #[v] w fun e w' => RetFiles L w e w' := by
  obtain ⟨A, c, hva, l1, ⟨_, l2⟩, l3⟩ := id hv
  have HV := Lib.hid hv
  subst hva
  clear hv
  cases A with
  | none =>
    have hn0 : L.length = 0 := by
      rcases Nat.eq_zero_or_pos L.length with h | h
      · exact h
      · obtain ⟨b, off, hh, _⟩ := l3 0 h
        cases hh
    have hL : L = [] := List.length_eq_zero_iff.1 hn0
    have hc0 := l2 rfl
    subst hL hc0
    clear l1 l2 l3 hn0
    have he : ∀ w : World, (binOp .eql 22 (.slice none 0 0) (.slice none 0 0)).run Tryz.prog w = .ok (.bool true) w := fun w => Lib.run_eql_slice_nil w 22 63 none 0 0 0 0 Tryz.underlying22
    go_enter Tryz.func106, Tryz.ntmps106
    go_wp2
    go_ret
    exact ⟨_, rfl, FO.nil _ _, Gr.refl _⟩
  | some ad =>
    clear l1 l2 l3
    have he : ∀ w : World, (binOp .eql 22 (.slice (some ad) L.length c) (.slice none 0 0)).run Tryz.prog w = .ok (.bool false) w := fun w => Lib.run_eql_slice_nil w 22 63 (some ad) L.length c 0 0 Tryz.underlying22
    go_enter Tryz.func106, Tryz.ntmps106
    go_wp2_with (at_builtin; refine wpList_copy_fv rfl (.tmp 5) (.tmp 6) rfl w.heap.size rfl rfl _ L rfl HV.out hlen ?_)
    intro A' c' w1 hown g1
    have HO := Lib.hid hown
    clear hown
    go_wp2
    go_ret
    exact ⟨_, rfl, HO.out, g1⟩

def CopyRel (L : List F) (v : Value) (w : World) (i : Value) (wr : World) : Prop :=
  ∃ k : Nat, k ≤ L.length ∧ i = .int .i64 k ∧ FO wr (w.heap.size + 1 + 1) v L ∧ Gr w wr ∧ w.heap.size + 1 < wr.heap.size ∧ wr.cell? ⟨w.heap.size + 1, 0, none⟩ = some (.slice none 0 0) ∧ wr.frozen? ⟨w.heap.size + 1, 0, none⟩ = false
/-- What holds of the world while one file of the row is copied. -/
def CopyT (L : List F) (g n c bx k : Nat) (f : F) (w w' : World) : Prop :=
  FO w' (w.heap.size + 1 + 1) (.slice (some ⟨g, 0, none⟩) n c) L ∧ Gr w w' ∧ g < bx ∧ bx < w'.heap.size ∧ w.heap.size + 1 < bx ∧ w'.cell? ⟨w.heap.size + 1, 0, none⟩ = some (.slice none 0 0) ∧ w'.frozen? ⟨w.heap.size + 1, 0, none⟩ = false ∧ ∃ hk : k < L.length, f = L[k]
abbrev CopyC (g bx k : Nat) (f : F) (w' : World) : Prop :=
  w'.cell? ⟨bx, 0, none⟩ = some (.string f.name) ∧ w'.cell? ⟨bx, 1, none⟩ = some (.string f.kept) ∧ w'.cell? ⟨bx, 2, none⟩ = some (.string f.loose)
          ∧ w'.cell? ⟨g, k * 3, none⟩ = some (.string f.name) ∧ w'.cell? ⟨g, k * 3 + 1, none⟩ = some (.string f.kept) ∧ w'.cell? ⟨g, k * 3 + 2, none⟩ = some (.string f.loose)
          ∧ w'.frozen? ⟨g, k * 3, none⟩ = false ∧ w'.frozen? ⟨g, k * 3 + 1, none⟩ = false ∧ w'.frozen? ⟨g, k * 3 + 2, none⟩ = false
theorem copyC_of {L : List F} {g n c bx k : Nat} {f : F} {w w' : World} (hb : FCell w' bx 0 f) (h : CopyT L g n c bx k f w w') : CopyC g bx k f w' ∧ CopyT L g n c bx k f w w' := by
  obtain ⟨h1, h2, h3, h4, h5, h6, h7, hk, hf⟩ := id h
  have hc := h1.at_ hk
  rw [← hf] at hc
  exact ⟨⟨hb.1, hb.2.1, hb.2.2, hc.1, hc.2.1, hc.2.2, h1.free _, h1.free _, h1.free _⟩, h⟩
theorem copyT_gr {L : List F} {g n c bx k : Nat} {f : F} {w w1 w2 : World} (h : CopyT L g n c bx k f w w1) (q : Gr w1 w2) : CopyT L g n c bx k f w w2 := by
  obtain ⟨h1, h2, h3, h4, h5, h6, h7, h8⟩ := h
  exact ⟨h1.gr q, h2.trans q, h3, Nat.lt_of_lt_of_le h4 q.size, h5, q.cell h6, q.frozen (show w.heap.size + 1 < _ by omega) h7, h8⟩
theorem keepCp {L : List F} {g n c bx k : Nat} {f : F} {w w1 w2 : World} (h : CopyC g bx k f w1 ∧ CopyT L g n c bx k f w w1) (q : Gr w1 w2) : CopyC g bx k f w2 ∧ CopyT L g n c bx k f w w2 :=
  copyC_of (FCell.gr ⟨h.1.1, h.1.2.1, h.1.2.2.1⟩ q) (copyT_gr h.2 q)
theorem drewCp {L : List F} {g n c bx k : Nat} {f : F} {w w1 : World} (h : CopyC g bx k f w1 ∧ CopyT L g n c bx k f w w1) : CopyC g bx k f w1.drew ∧ CopyT L g n c bx k f w w1.drew := keepCp h (Gr.refl _).drew
theorem set_self {L : List F} {i : Nat} (h : i < L.length) : L.set i L[i] = L := List.set_getElem_self h
theorem FCell.far {w : World} {b o : Nat} {f : F} (h : FCell w b o f) {p : Addr} (hp : p.block ≠ b) (u : Value) : FCell (w.setCell p u) b o f := by
  have : ∀ j, (w.setCell p u).cell? ⟨b, j, none⟩ = w.cell? ⟨b, j, none⟩ := fun j => World.cell?_setCell_other _ _ _ _ (fun e => hp (by rw [e]))
  exact ⟨by rw [this]; exact h.1, by rw [this]; exact h.2.1, by rw [this]; exact h.2.2⟩
theorem copyT_put {L : List F} {g n c bx k : Nat} {f : F} {w w1 : World} (h : CopyC g bx k f w1 ∧ CopyT L g n c bx k f w w1) :
    CopyC g bx k f (((w1.setCell ⟨g, k * 3, none⟩ (.string f.name)).setCell ⟨g, k * 3 + 1, none⟩ (.string f.kept)).setCell ⟨g, k * 3 + 2, none⟩ (.string f.loose)) ∧
      CopyT L g n c bx k f w (((w1.setCell ⟨g, k * 3, none⟩ (.string f.name)).setCell ⟨g, k * 3 + 1, none⟩ (.string f.kept)).setCell ⟨g, k * 3 + 2, none⟩ (.string f.loose)) := by
  obtain ⟨⟨b0, b1, b2, _⟩, h1, h2, h3, h4, h5, h6, h7, hk, hf⟩ := h
  have hp := h1.put3 hk f
  rw [hf, set_self hk, ← hf] at hp
  have hBg := h1.len.2.2.2.1
  have hb : FCell w1 bx 0 f := ⟨b0, b1, b2⟩
  refine copyC_of (((hb.far (p := ⟨g, k * 3, none⟩) (by show g ≠ bx; omega) _).far (p := ⟨g, k * 3 + 1, none⟩) (by show g ≠ bx; omega) _).far (p := ⟨g, k * 3 + 2, none⟩) (by show g ≠ bx; omega) _) ?_
  refine ⟨hp, ((Below.setCell (Below.setCell (Below.setCell h2 (p := ⟨g, k * 3, none⟩) (by show w.heap.size ≤ g; omega) _) (p := ⟨g, k * 3 + 1, none⟩) (by show w.heap.size ≤ g; omega) _) (p := ⟨g, k * 3 + 2, none⟩) (by show w.heap.size ≤ g; omega) _)), h3, ?_, h5, ?_, ?_, hk, hf⟩
  · simpa [World.setCell] using h4
  · rw [World.cell?_setCell_other _ _ _ _ (fun e => by injection e; omega), World.cell?_setCell_other _ _ _ _ (fun e => by injection e; omega), World.cell?_setCell_other _ _ _ _ (fun e => by injection e; omega)]
    exact h6
  · rw [World.frozen?_setCell, World.frozen?_setCell, World.frozen?_setCell]
    exact h7
set_option maxRecDepth 100000 in
set_option maxHeartbeats 1000000 in
theorem copy_any (v : Value) (L : List F) (w : World) (hv : FV w v L) (hf : Fit L) (hlen : L.length * 48 ≤ 140737488355328) :
    Calls Tryz.prog 64 #[.agg #[v]] w fun e w' => RetDisk L w e w' := by
  obtain ⟨A, c, hva, _⟩ := id hv
  have HV := Lib.hid hv
  have HFit := Lib.hid hf
  subst hva
  clear hv hf
  have HC := Lib.hid (fun (w1 : World) (g : Gr w w1) => sclone_any _ L w1 (HV.out.gr g) hlen)
  obtain ⟨n, hn⟩ : ∃ n, n = L.length := ⟨_, rfl⟩
  have HN := Lib.hid hn
  rw [← hn] at HC HV
  rw [← hn]
  clear hn
  go_enter Tryz.func64, Tryz.ntmps64
  go_wp2_with fail
  refine (HC.out _ ((gr_box w _).alloc _)).mono ?_
  rintro e w1 ⟨v1, rfl, hown, g1⟩
  have G1 : Gr w w1 := ((gr_box w _).alloc _).trans g1
  have c1 : w1.cell? ⟨w.heap.size + 1, 0, none⟩ = some (.slice none 0 0) := g1.cell (by simp)
  have f1 : w1.frozen? ⟨w.heap.size + 1, 0, none⟩ = false := g1.frozen (by simp) (by simp)
  have hB : w.heap.size + 1 < w1.heap.size := by have := g1.size; simp at this; omega
  obtain ⟨A1, k1, hv1, hk1, hk2⟩ := hown.form
  rw [← HN.out] at hv1 hk1
  subst hv1
  have HO : Hid (FO w1 (w.heap.size + 1 + 1) (.slice A1 n k1) L) := Lib.hid (hown.le (by simp))
  clear hown g1
  go_wp2_with fail
  go_loopw [11] (fun i wr => CopyRel L (.slice A1 n k1) w i wr) (fun i _ => n - (intOf i).toNat)
  case atStart => exact ⟨0, Nat.zero_le _, rfl, HO.out, G1, hB, c1, f1⟩
  case round =>
    obtain ⟨k, hk, rfl, hown, hgr, hBr, hc1, hf1⟩ := hrel
    rw [← HN.out] at hk
    have HOW := Lib.hid hown
    clear hown G1 c1 f1 HO hB
    by_cases hlt : k < n
    · have hkL : k < L.length := by rw [← HN.out]; exact hlt
      obtain ⟨g, cc, hvv⟩ := HOW.out.addr hkL
      injection hvv with h1 h2 h3
      subst h1 h3
      clear h2
      have hgl := HOW.out.len.2.2.2.2
      obtain ⟨cc0, cc1, cc2⟩ := HOW.out.at_ hkL
      have hfit := HFit.out _ (List.getElem_mem hkL)
      unfold FitF F.size at hfit
      have hs0 := hfit.1
      have hs1 : L[k].kept.size ≤ 281474976710656 := by omega
      have hs2 : L[k].loose.size ≤ 281474976710656 := by omega
      obtain ⟨f, hfe⟩ : ∃ f, f = L[k] := ⟨_, rfl⟩
      rw [← hfe] at cc0 cc1 cc2 hs0 hs1 hs2
      have HK0 := Lib.hid (clone_any f.name hs0)
      have HK1 := Lib.hid (clone_any f.kept hs1)
      have HK2 := Lib.hid (clone_any f.loose hs2)
      have HS := Lib.hid (copyC_of (fbox wr f) (show CopyT L g n k1 wr.heap.size k f w _ from ⟨HOW.out.gr (gr_box wr _), hgr.alloc _, hgl, by simp, hBr, (gr_box wr _).cell hc1, (gr_box wr _).frozen hBr hf1, hkL, hfe⟩))
      clear hfit hs0 hs1 hs2 hfe
      go_wp2_with fail
      obtain ⟨W3, hW3⟩ : ∃ W3, W3 = wr.alloc (.cells #[.string f.name, .string f.kept, .string f.loose] 63) := ⟨_, rfl⟩
      rw [← hW3] at HS ⊢
      clear hW3 cc0 cc1 cc2 hc1 hf1
      obtain ⟨bx, hbx⟩ : ∃ b, b = wr.heap.size := ⟨_, rfl⟩
      rw [← hbx] at HS hgl hBr ⊢
      have HBX := Lib.hid hbx
      clear hbx
      go_region_held3 (fun w' => CopyC g bx k f w' ∧ CopyT L g n k1 bx k f w w')
        (first
          | exact HS.out
          | exact drewCp HS.out
          | (refine keepCp ?_ hb; assumption)
          | (refine copyT_put ?_; assumption))
        (first
          | (go_at_call 66; with_reducible refine (HK0.out _).mono ?_; rintro e w4 ⟨rfl, hb⟩)
          | (go_at_call 66; with_reducible refine (HK1.out _).mono ?_; rintro e w5 ⟨rfl, hb⟩)
          | (go_at_call 66; with_reducible refine (HK2.out _).mono ?_; rintro e w6 ⟨rfl, hb⟩))
      have hT := ‹CopyC g bx k f (World.setCell _ _ _) ∧ CopyT L g n k1 bx k f w (World.setCell _ _ _)›.2
      have HT := Lib.hid hT
      clear hT
      clear ‹CopyC g bx k f (World.setCell _ _ _) ∧ CopyT L g n k1 bx k f w (World.setCell _ _ _)›
      go_wp2
      go_roundw
      case rel => exact ⟨k + 1, by rw [← HN.out]; omega, by go_num, HT.out.1, HT.out.2.1, by have := HT.out.2.2.2.1; omega, HT.out.2.2.2.2.2.1, HT.out.2.2.2.2.2.2.1⟩
      case measure => simp [intOf]; omega
    · go_wp2
      refine bodyPost_ret (v := .agg #[.slice A1 n k1]) (by simp [results, Tryz.results64, go_sem, hc1]) rfl ⟨_, rfl, ?_, ?_⟩
      · exact own_le (ownsRow_setCell_below HOW.out (a := ⟨w.heap.size + 1, 0, none⟩) (by show w.heap.size + 1 < _; omega) _) (by omega)
      · exact Below.setCell hgr (show w.heap.size ≤ w.heap.size + 1 by omega) _
end Go.Proofs.YtlnhbndghnkfmaaGreatDoor
namespace Go.Proofs.YtlnhbndghnkfmaaGreatDoor
open Go.RowKit

/-- The slice value v reads as the numbers K. -/
def IV (w : World) (v : Value) (K : List Int) : Prop :=
  ∃ A c, v = .slice A K.length c ∧ K.length ≤ c ∧ c ≤ maxLen ∧ ∀ j (hj : j < K.length), ∃ b off, A = some ⟨b, off, none⟩ ∧ w.cell? ⟨b, off + j, none⟩ = some (.int .i64 K[j]) ∧ -9223372036854775808 ≤ K[j] ∧ K[j] ≤ 9223372036854775807
theorem IV.gr {w w' : World} {v : Value} {K : List Int} (h : IV w v K) (g : Gr w w') : IV w' v K := by
  obtain ⟨A, c, hv, h1, h2, h3⟩ := h
  refine ⟨A, c, hv, h1, h2, fun j hj => ?_⟩
  obtain ⟨b, off, ha, hc, hb⟩ := h3 j hj
  exact ⟨b, off, ha, g.cell hc, hb⟩

/-- The first k files behind the crash, the others ahead of it. -/
def mix (L : List F) (K : List Int) (k : Nat) : List F := L.mapIdx fun i f => if i < k then crashAt f K i else f
def CrashRel (L : List F) (K : List Int) (v1 : Value) (w : World) (i : Value) (wr : World) : Prop :=
  ∃ k : Nat, k ≤ L.length ∧ i = .int .i64 k ∧ FO wr (w.heap.size + 1 + 1) v1 (mix L K k) ∧ Gr w wr ∧ w.heap.size + 1 < wr.heap.size ∧ wr.cell? ⟨w.heap.size, 0, none⟩ = some v1 ∧ wr.cell? ⟨w.heap.size + 1, 0, none⟩ = some (.slice none 0 0) ∧ wr.frozen? ⟨w.heap.size + 1, 0, none⟩ = false

theorem CrashRel.drew {L : List F} {K : List Int} {v1 : Value} {w wr : World} {i : Value} (h : CrashRel L K v1 w i wr) : CrashRel L K v1 w i wr.drew := by
  obtain ⟨k, h1, h2, h3, h4, h5, h6, h7, h8⟩ := h
  exact ⟨k, h1, h2, h3.gr (Gr.refl _).drew, h4.drew, h5, h6, h7, h8⟩
end Go.Proofs.YtlnhbndghnkfmaaGreatDoor
namespace Go.Proofs.YtlnhbndghnkfmaaGreatDoor
open Go.RowKit

def RCrashRel (L : List F) (K : List Int) (v1 : Value) (bx : Nat) (w : World) (i : Value) (wr : World) : Prop :=
  ∃ k : Nat, k ≤ L.length ∧ i = .int .i64 k ∧ FO wr (w.heap.size + 1 + 1) v1 (mix L K k) ∧ Gr w wr ∧ bx < wr.heap.size ∧ wr.cell? ⟨bx, 0, none⟩ = some v1 ∧ wr.cell? ⟨w.heap.size + 1, 0, none⟩ = some (.slice none 0 0) ∧ wr.frozen? ⟨w.heap.size + 1, 0, none⟩ = false
theorem RCrashRel.drew {L : List F} {K : List Int} {v1 : Value} {bx : Nat} {w wr : World} {i : Value} (h : RCrashRel L K v1 bx w i wr) : RCrashRel L K v1 bx w i wr.drew := by
  obtain ⟨k, h1, h2, h3, h4, h5, h6, h7, h8⟩ := h
  exact ⟨k, h1, h2, h3.gr (Gr.refl _).drew, h4.drew, h5, h6, h7, h8⟩
end Go.Proofs.YtlnhbndghnkfmaaGreatDoor
namespace Go.Proofs.YtlnhbndghnkfmaaGreatDoor
open Go.RowKit

theorem FV.sl {w : World} {v : Value} {L : List F} (h : FV w v L) : SL w 3 v L.length (fcells L) := by
  obtain ⟨A, c, rfl, h1, h2, h3⟩ := h
  refine ⟨A, c, rfl, h1, h2, fcells_len L, fun j u hu => ?_⟩
  obtain ⟨q, r, hq, hr, rfl, hg⟩ := rows_of fcell 3 fcell_len (by decide) L j u hu
  obtain ⟨b, off, hh, c0, c1, c2⟩ := h3 q hq
  refine ⟨b, off, hh, ?_⟩
  match r, hr with
  | 0, _ =>
    have : (Value.string L[q].name) = u := by simpa [fcell] using hg
    rw [← this, show off + (q * 3 + 0) = off + q * 3 by omega]
    exact c0
  | 1, _ =>
    have : (Value.string L[q].kept) = u := by simpa [fcell] using hg
    rw [← this, show off + (q * 3 + 1) = off + q * 3 + 1 by omega]
    exact c1
  | 2, _ =>
    have : (Value.string L[q].loose) = u := by simpa [fcell] using hg
    rw [← this, show off + (q * 3 + 2) = off + q * 3 + 2 by omega]
    exact c2
theorem elemFile : Tryz.prog.underlying 22 = some (.slice (Tryz.prog.elem 22)) ∧ Tryz.prog.elem 22 = 63 := ⟨by kernel_rfl, by kernel_rfl⟩
theorem sizeFile : ∀ W : World, (sizeOf 63).run Tryz.prog W = .ok 3 W := fun W => by kernel_rfl
def newF (nm : ByteArray) : F := ⟨nm, ⟨#[]⟩, ⟨#[]⟩⟩
end Go.Proofs.YtlnhbndghnkfmaaGreatDoor
namespace Go.Proofs.YtlnhbndghnkfmaaGreatDoor
open Go.RowKit
set_option linter.unusedVariables false

def FitO (o : O) : Prop := (-9223372036854775808 ≤ o.kind ∧ o.kind ≤ 9223372036854775807) ∧ (-9223372036854775808 ≤ o.at_ ∧ o.at_ ≤ 9223372036854775807) ∧ o.name.size ≤ 9223372036854775807 ∧ o.bytes.size ≤ 281474976710656
/-- What one operation answers: the disk behind it, and the error's number. -/
def RetOne (L : List F) (o : O) (B : Nat) (v : Value) (w : World) (e : Ending) (w' : World) : Prop :=
  ∃ v', e = .returned (.tuple #[.agg #[v'], .int .i64 ((step L o).1 : Int)]) ∧ FO w' B v' (step L o).2 ∧ Kp v.ownBlock w w' ∧ ((step L o).1 ≠ 0 → v' = v) ∧ ∀ g, v'.ownBlock = some g → v.ownBlock = some g ∨ w.heap.size ≤ g
/-- The three boxes that it begins with. -/
abbrev OneB (w : World) (A : Option Addr) (n c : Nat) (o : O) (W : World) : Prop :=
    W.cell? ⟨w.heap.size, 0, none⟩ = some (.slice A n c) ∧ W.cell? ⟨w.heap.size + 1, 0, none⟩ = some (.int .i64 o.kind) ∧ W.cell? ⟨w.heap.size + 1, 1, none⟩ = some (.string o.name) ∧ W.cell? ⟨w.heap.size + 1, 2, none⟩ = some (.string o.bytes) ∧ W.cell? ⟨w.heap.size + 1, 3, none⟩ = some (.int .i64 o.at_) ∧
    W.cell? ⟨w.heap.size + 1 + 1, 0, none⟩ = some (.slice none 0 0) ∧ W.frozen? ⟨w.heap.size + 1 + 1, 0, none⟩ = false ∧ W.frozen? ⟨w.heap.size, 0, none⟩ = false ∧ w.heap.size + 1 + 1 < W.heap.size
theorem OneB.gr {w : World} {A : Option Addr} {n c : Nat} {o : O} {W W' : World} (h : OneB w A n c o W) (g : Gr W W') : OneB w A n c o W' := by
  obtain ⟨h1, h2, h3, h4, h5, h6, h7, h8, h9⟩ := h
  exact ⟨g.cell h1, g.cell h2, g.cell h3, g.cell h4, g.cell h5, g.cell h6, g.frozen (show w.heap.size + 1 + 1 < _ by omega) h7, g.frozen (show w.heap.size < _ by omega) h8, Nat.lt_of_lt_of_le h9 g.size⟩
theorem FO.set {w : World} {B : Nat} {v : Value} {L : List F} (h : FO w B v L) {b : Nat} (hb : ∀ g, v.ownBlock = some g → g ≠ b) (i : Nat) (u : Value) : FO (w.setCell ⟨b, i, none⟩ u) B v L := by
  have hg : w.grownBy (w.setCell ⟨b, i, none⟩ u) (some b) := ⟨rfl, rfl, rfl, by simp [World.setCell], fun k _ hk => Below.heap_setCell w ⟨b, i, none⟩ u k (fun e => hk (by rw [e]))⟩
  refine World.ownsRow.kept h hg ?_
  rcases hv : v.ownBlock with _ | g
  · exact .inl rfl
  · exact .inr (fun e => hb g hv (by injection e))

theorem step_good {L : List F} {o : O} (h1 : 1 ≤ o.kind) (h4 : o.kind ≤ 4) (hn : nameOk o.name = true) : step L o = stepAt L o (findF L o.name) := by
  unfold step
  rw [if_neg]
  rintro (h | h | h)
  · omega
  · omega
  · rw [hn] at h; cases h
theorem stepAt_some {L : List F} {o : O} {i : Nat} (h : i < L.length) : stepAt L o i =
    (if o.kind = 1 then
      if 1048576 < L[i].size + o.bytes.size then (2, L)
      else (0, L.set i ⟨L[i].name, L[i].kept, L[i].loose ++ o.bytes⟩)
    else if o.kind = 2 then (0, L.set i ⟨L[i].name, L[i].kept ++ L[i].loose, ⟨#[]⟩⟩)
    else if o.kind = 3 then
      if o.at_ < 0 ∨ (L[i].size : Int) < o.at_ then (1, L)
      else (0, L.set i ⟨L[i].name, (L[i].kept ++ L[i].loose).extract 0 o.at_.toNat, ⟨#[]⟩⟩)
    else (0, L.eraseIdx i)) := by
  unfold stepAt
  rw [List.getElem?_eq_getElem h]
theorem stepAt_none {L : List F} {o : O} {i : Nat} (h : ¬ i < L.length) : stepAt L o i =
    (if o.kind = 1 then
      if 64 ≤ L.length then (4, L)
      else if 1048576 < o.bytes.size then (2, L)
      else (0, L.insertIdx (placeF L o.name) ⟨o.name, ⟨#[]⟩, o.bytes⟩)
    else (30, L)) := by
  unfold stepAt
  rw [List.getElem?_eq_none (by omega)]
end Go.Proofs.YtlnhbndghnkfmaaGreatDoor
namespace Go.Proofs.YtlnhbndghnkfmaaGreatDoor
open Go.RowKit
set_option linter.unusedVariables false

theorem RetOne.drew {L : List F} {o : O} {B : Nat} {v : Value} {w w' : World} {e : Ending} (h : RetOne L o B v w e w') : RetOne L o B v w e w'.drew := by
  obtain ⟨v', h1, h2, h3, h4, h5⟩ := h
  exact ⟨v', h1, h2.gr (Gr.refl _).drew, h3.drew, h4, h5⟩
theorem append_size' (x y : ByteArray) : (x ++ y).size = x.size + y.size := ByteArray.size_append

end Go.Proofs.YtlnhbndghnkfmaaGreatDoor
namespace Go.Proofs.YtlnhbndghnkfmaaGreatDoor
open Go.RowKit

theorem slice_to (n c k : Nat) (hk : k ≤ c) (A : Option Addr) : ∀ W : World, (Instr.slice 22 (.slice A n c) none (some (.int .i64 (k : Int))) none).run Tryz.prog W = .ok (.slice A k c) W := by
  intro W
  rw [run_slice_h W _ A n c elemFile.1 .i64 (k : Int) (by omega) (by omega), elemFile.2, sizeFile]
  show Result.ok (sliced A 0 (k : Int).toNat c 3) W = _
  unfold sliced
  rw [Int.toNat_natCast]
  cases A with
  | none => simp
  | some a => simp [Addr.add]
end Go.Proofs.YtlnhbndghnkfmaaGreatDoor
namespace Go.Proofs.YtlnhbndghnkfmaaGreatDoor
open Go.RowKit

/-- The slice value v reads as the operations. -/
def OCell (w : World) (b off : Nat) (o : O) : Prop :=
  w.cell? ⟨b, off, none⟩ = some (.int .i64 o.kind) ∧ w.cell? ⟨b, off + 1, none⟩ = some (.string o.name) ∧ w.cell? ⟨b, off + 2, none⟩ = some (.string o.bytes) ∧ w.cell? ⟨b, off + 3, none⟩ = some (.int .i64 o.at_)
def OV (w : World) (v : Value) (ops : List O) : Prop :=
  ∃ A c, v = .slice A ops.length c ∧ ops.length ≤ c ∧ (c ≤ maxLen ∧ (A = Option.none → c = 0)) ∧ ∀ j (hj : j < ops.length), ∃ b off, A = some ⟨b, off, none⟩ ∧ OCell w b (off + j * 4) ops[j]
theorem OV.gr {w w' : World} {v : Value} {ops : List O} (h : OV w v ops) (g : Gr w w') : OV w' v ops := by
  obtain ⟨A, c, hv, h1, h2, h3⟩ := h
  refine ⟨A, c, hv, h1, h2, fun j hj => ?_⟩
  obtain ⟨b, off, ha, hc⟩ := h3 j hj
  exact ⟨b, off, ha, g.cell hc.1, g.cell hc.2.1, g.cell hc.2.2.1, g.cell hc.2.2.2⟩
/-- What the operations in order answer. -/
def RetDo (L : List F) (ops : List O) (w : World) (e : Ending) (w' : World) : Prop :=
  ∃ v, e = .returned (.tuple #[.agg #[v], .int .i64 ((run L ops).2.1 : Int), .int .i64 ((run L ops).2.2 : Int)]) ∧ FO w' w.heap.size v (run L ops).1 ∧ Gr w w'

structure RDoInv (L : List F) (ops : List O) (bx k : Nat) (v : Value) (Lk : List F) (w wr : World) : Prop where
  hk : k ≤ ops.length
  hrun : run L ops = bump k (run Lk (ops.drop k))
  own : FO wr (w.heap.size + 1 + 1) v Lk
  fit : Fit Lk
  len : Lk.length ≤ max L.length 64
  gr : Gr w wr
  lo : w.heap.size + 1 < bx
  hi : bx < wr.heap.size
  ne : ∀ g, v.ownBlock = some g → g ≠ bx
  cb : wr.cell? ⟨bx, 0, none⟩ = some v
  fb : wr.frozen? ⟨bx, 0, none⟩ = false
  cr : wr.cell? ⟨w.heap.size + 1, 0, none⟩ = some (.slice none 0 0)
  fr : wr.frozen? ⟨w.heap.size + 1, 0, none⟩ = false
/-- What holds while one operation is done. -/
structure RDoT (bx h : Nat) (v : Value) (w w' : World) : Prop where
  gr : Gr w w'
  lo : w.heap.size + 1 < bx
  hi : bx < w'.heap.size
  sz : h ≤ w'.heap.size
  fb : w'.frozen? ⟨bx, 0, none⟩ = false
  cr : w'.cell? ⟨w.heap.size + 1, 0, none⟩ = some (.slice none 0 0)
  fr : w'.frozen? ⟨w.heap.size + 1, 0, none⟩ = false
abbrev RDoS (bx h : Nat) (v : Value) (b off k : Nat) (o : O) (w w' : World) : Prop :=
  w'.cell? ⟨bx, 0, none⟩ = some v ∧ w'.cell? ⟨b, off + k * 4, none⟩ = some (.int .i64 o.kind) ∧ w'.cell? ⟨b, off + k * 4 + 1, none⟩ = some (.string o.name) ∧ w'.cell? ⟨b, off + k * 4 + 2, none⟩ = some (.string o.bytes) ∧ w'.cell? ⟨b, off + k * 4 + 3, none⟩ = some (.int .i64 o.at_) ∧ RDoT bx h v w w'
theorem RDoT.grow {bx h : Nat} {v : Value} {w w1 w2 : World} (t : RDoT bx h v w w1) (g : Gr w1 w2) : RDoT bx h v w w2 :=
  ⟨t.gr.trans g, t.lo, Nat.lt_of_lt_of_le t.hi g.size, Nat.le_trans t.sz g.size, g.frozen t.hi t.fb, g.cell t.cr, g.frozen (show w.heap.size + 1 < _ by have := t.lo; have := t.hi; omega) t.fr⟩
theorem RDoS.gr {bx h b off k : Nat} {v : Value} {o : O} {w w1 w2 : World} (s : RDoS bx h v b off k o w w1) (g : Gr w1 w2) : RDoS bx h v b off k o w w2 :=
  ⟨g.cell s.1, g.cell s.2.1, g.cell s.2.2.1, g.cell s.2.2.2.1, g.cell s.2.2.2.2.1, s.2.2.2.2.2.grow g⟩
theorem RDoS.kp {bx h b off k : Nat} {v : Value} {o : O} {w w1 w2 : World} (s : RDoS bx h v b off k o w w1) (g : Kp v.ownBlock w1 w2) (hb : b < w.heap.size) (hlo : ∀ g, v.ownBlock = some g → w.heap.size + 1 < g) (hne : ∀ g, v.ownBlock = some g → g ≠ bx) : RDoS bx h v b off k o w w2 := by
  obtain ⟨h0, h1, h2, h3, h4, t⟩ := s
  have n1 : some b ≠ v.ownBlock := fun e => by have := hlo b e.symm; omega
  have n2 : some bx ≠ v.ownBlock := fun e => hne bx e.symm rfl
  have n3 : some (w.heap.size + 1) ≠ v.ownBlock := fun e => by have := hlo _ e.symm; omega
  refine ⟨g.cell h0 n2, g.cell h1 n1, g.cell h2 n1, g.cell h3 n1, g.cell h4 n1, ?_⟩
  exact ⟨Below.trans t.gr (g.below (by have := t.lo; have := t.hi; omega) (fun g' hg => by have := hlo g' hg; omega)), t.lo, Nat.lt_of_lt_of_le t.hi g.size, Nat.le_trans t.sz g.size,
    (g.frozen t.hi n2).trans t.fb, g.cell t.cr n3, (g.frozen (show w.heap.size + 1 < _ by have := t.lo; have := t.hi; omega) n3).trans t.fr⟩

theorem RDoInv.drew {L : List F} {ops : List O} {bx k : Nat} {v : Value} {Lk : List F} {w wr : World} (h : RDoInv L ops bx k v Lk w wr) : RDoInv L ops bx k v Lk w wr.drew :=
  ⟨h.hk, h.hrun, h.own.gr (Gr.refl _).drew, h.fit, h.len, h.gr.drew, h.lo, h.hi, h.ne, h.cb, h.fb, h.cr, h.fr⟩
end Go.Proofs.YtlnhbndghnkfmaaGreatDoor
