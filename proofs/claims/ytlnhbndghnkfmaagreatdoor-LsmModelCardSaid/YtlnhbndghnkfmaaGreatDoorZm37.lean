/- Walks: are a store's tables sound, the program's. Walks: the manifest's records are replayed, the program's. Walks: the manifest's records are replayed, the program's: the walk. -/
import Derived.Test.YtlnhbndghnkfmaaGreatDoorZm36
namespace Go.Proofs.YtlnhbndghnkfmaaGreatDoor
open Go.RowKit

/-- Are the tables as many as may be, and each one there and a table? -/
noncomputable def soundB (L : List F) (T : List ByteArray) : Bool := decide (T.length ≤ 16) && T.all (fun nm => (inTab L nm).isSome)
set_option maxRecDepth 100000 in
set_option maxHeartbeats 2000000 in
theorem sound_m (B bd : Nat) (vF vM vT vD : Value) (L : List F) (M : List CR) (T : List ByteArray) (g m : Nat) (D : List O) (w : World) (hD : DRow w B bd vF vM vT vD L M T g m D) (hf : Fit L) (hH : Halves w) :
    Calls Tryz.prog 72 #[.pointer (some ⟨bd, 0, none⟩)] w fun e w' => e = .returned (.bool (soundB L T)) ∧ Gr w w' := by
  obtain ⟨AF, cF, rfl, -, -⟩ := own_form hD.files
  obtain ⟨nF, hnF⟩ : ∃ n, n = L.length := ⟨_, rfl⟩
  rw [← hnF] at hD
  have H1 := Lib.hid (fun nm w1 (q : Gr w w1) => inTable_any (.slice AF nF cF) L nm w1 (hD.files.fv.gr q) hf (hH.gr q))
  unfold RetTab at H1
  have HC0 : Hid (∀ W', Gr w W' → W'.cell? ⟨bd, 0, none⟩ = some (.slice AF nF cF)) := Lib.hid (fun W' q => obj_cell (gr_obj q hD.obj) (i := 0) rfl)
  have hT := hD.tabs.sv
  obtain ⟨A, c, hvT, l1, ⟨l2, _⟩, l3⟩ := hT
  have hc63 : c ≤ 9223372036854775807 := l2
  have HP := Lib.hid l3
  have c2 := obj_cell hD.obj (i := 2) rfl
  obtain ⟨n, hn⟩ : ∃ n, n = T.length := ⟨_, rfl⟩
  have HN := Lib.hid hn
  have hsl : (#[Value.slice AF nF cF, vM, vT, .int .i64 (g : Int), .int .i64 (m : Int), vD][2]) = .slice A n c := by rw [hn]; exact hvT
  have c2' : w.cell? ⟨bd, 2, none⟩ = some (.slice A n c) := by rw [c2]; exact congrArg some hsl
  rw [← hn] at l1
  clear l2 l3 hn hD hf hH hvT c2 hsl hnF
  by_cases h16 : 16 < n
  · have HB : Hid (soundB L T = false) := Lib.hid (by unfold soundB; rw [← HN.out, decide_eq_false (by omega), Bool.false_and])
    have t0 : ((n : Int) > 16) := by omega
    clear h16
    go_enter Tryz.func72, Tryz.ntmps72
    go_wp2_with fail
    go_ret
    exact ⟨by rw [HB.out]; rfl, Gr.refl _⟩
  have t0 : ¬ ((n : Int) > 16) := by omega
  have HS : Hid (soundB L T = T.all (fun nm => (inTab L nm).isSome)) := Lib.hid (by unfold soundB; rw [← HN.out, decide_eq_true (by omega), Bool.true_and])
  clear h16
  go_enter Tryz.func72, Tryz.ntmps72
  go_wp2_with fail
  go_loopg [20] (n + 1) (fun kx s20 wr => ∃ j : Nat, s20 = .int .i64 (j : Int) ∧ j ≤ n ∧ n - j ≤ kx ∧ Hid (∀ i (h : i < T.length), i < j → (inTab L T[i]).isSome = true) ∧ Hid (Gr w wr))
  case atStart => exact ⟨0, rfl, Nat.zero_le _, by omega, Lib.hid (fun i _ h => absurd h (Nat.not_lt_zero _)), Lib.hid (Gr.refl _)⟩
  case round =>
    obtain ⟨j, rfl, hj, hkx, HB, HG⟩ := hrel
    by_cases hlt : j < n
    · have hjT : j < T.length := by rw [← HN.out]; exact hlt
      obtain ⟨b, off, rfl, q0⟩ := HP.out j hjT
      have c0 := HG.out.cell q0
      have cb := HC0.out _ HG.out
      have u0 : (0 : Int) ≤ (j : Int) := by omega
      have u1 : (j : Int) < (n : Int) := by omega
      obtain ⟨nm, hnm⟩ : ∃ x, x = T[j] := ⟨_, rfl⟩
      have HNM := Lib.hid hnm
      rw [← hnm] at c0
      have H2 := Lib.hid (H1.out nm _ HG.out)
      clear q0 hnm
      go_wp2_with fail
      refine H2.out.mono ?_
      rintro e w1 ⟨u, rfl, hpo, -, g1⟩
      have HG1 := Lib.hid (HG.out.trans g1)
      obtain ⟨AM, cM, rfl, -, -⟩ := own_form hpo
      obtain ⟨ok, hok⟩ : ∃ b, b = (inTab L nm).isSome := ⟨_, rfl⟩
      have HOK := Lib.hid hok
      rw [← hok]
      clear hpo g1 hok c0 cb
      rcases ok with _ | _
      · have HF : Hid (soundB L T = false) := Lib.hid (by
          rw [HS.out, List.all_eq_false]
          refine ⟨T[j], List.getElem_mem hjT, ?_⟩
          rw [← HNM.out, ← HOK.out]
          exact Bool.false_ne_true)
        go_wp2_with fail
        go_ret
        exact ⟨by rw [HF.out]; rfl, HG1.out⟩
      · have HB2 : Hid (∀ i (h : i < T.length), i < j + 1 → (inTab L T[i]).isSome = true) := Lib.hid (fun i h hi => by
          by_cases e : i = j
          · subst e; rw [← HNM.out, ← HOK.out]
          · exact HB.out i h (by omega))
        go_wp2_with fail
        go_roundg (n - (j + 1))
        case measure => omega
        case rel => exact ⟨j + 1, by go_num, by omega, Nat.le_refl _, HB2, HG1⟩
    · have HF : Hid (soundB L T = true) := Lib.hid (by
        rw [HS.out, List.all_eq_true]
        intro x hx
        obtain ⟨i, hi, rfl⟩ := List.getElem_of_mem hx
        exact HB.out i hi (by have := HN.out; omega))
      go_wp2_with fail
      go_ret
      exact ⟨by rw [HF.out]; rfl, HG.out⟩
end Go.Proofs.YtlnhbndghnkfmaaGreatDoor
namespace Go.Proofs.YtlnhbndghnkfmaaGreatDoor
open Go.RowKit

section
variable {ops : Array Oper} {o : Oper} {a : Act} {W : World} {K : Act → World → Prop} {Q : Exit → Act → World → Prop} {E : Prop}
end
theorem drow_tabs {W : World} {B bd : Nat} {vF vM vT vD vT' : Value} {L : List F} {M : List CR} {T T' : List ByteArray} {g m : Nat} {D : List O} (h : DRow W B bd vF vM vT vD L M T g m D) (ht : SO W B vT' T') :
    DRow (W.setCell ⟨bd, 2, none⟩ vT') B bd vF vM vT' vD L M T' g m D :=
  ⟨set_obj h.obj _, h.base, own_set_obj h.files h.obj (by decide) _, own_set_obj h.mem h.obj (by decide) _, own_set_obj ht h.obj (by decide) _, own_set_obj h.ops h.obj (by decide) _⟩
theorem drow_gen {W : World} {B bd : Nat} {vF vM vT vD : Value} {L : List F} {M : List CR} {T : List ByteArray} {g m : Nat} {D : List O} (h : DRow W B bd vF vM vT vD L M T g m D) (g' : Nat) :
    DRow (W.setCell ⟨bd, 3, none⟩ (.int .i64 (g' : Int))) B bd vF vM vT vD L M T g' m D :=
  ⟨set_obj h.obj _, h.base, own_set_obj h.files h.obj (by decide) _, own_set_obj h.mem h.obj (by decide) _, own_set_obj h.tabs h.obj (by decide) _, own_set_obj h.ops h.obj (by decide) _⟩
theorem drow_mem {W : World} {B bd : Nat} {vF vM vT vD vM' : Value} {L : List F} {M M' : List CR} {T : List ByteArray} {g m : Nat} {D : List O} (h : DRow W B bd vF vM vT vD L M T g m D) (ht : CO W B vM' M') :
    DRow (W.setCell ⟨bd, 1, none⟩ vM') B bd vF vM' vT vD L M' T g m D :=
  ⟨set_obj h.obj _, h.base, own_set_obj h.files h.obj (by decide) _, own_set_obj ht h.obj (by decide) _, own_set_obj h.tabs h.obj (by decide) _, own_set_obj h.ops h.obj (by decide) _⟩
/-- What lies behind Tables' longer row. -/
theorem tabs_fin {w W w2 w4 : World} {B bd : Nat} {vF vM vT vD v4 : Value} {L : List F} {M : List CR} {T T4 : List ByteArray} {g m : Nat} {D : List O} (hW : Below B w W) (hD : DRow W B bd vF vM vT vD L M T g m D)
    (g2 : Gr W w2) (hB2 : B ≤ W.heap.size) (hown : SO w4 B v4 T4) (hk : Kp vT.ownBlock w2 w4) :
    DRow (w4.setCell ⟨bd, 2, none⟩ v4) B bd vF vM v4 vD L M T4 g m D ∧ Below B w (w4.setCell ⟨bd, 2, none⟩ v4) := by
  have hd := hD.gr g2
  have n1 := own_ne_obj hd.tabs hd.obj (by decide)
  have o4 := kp_obj hk hd.obj n1
  have f4 := own_past hd.files hd.tabs (by decide) hk
  have m4 := own_past hd.mem hd.tabs (by decide) hk
  have d4 := own_past hd.ops hd.tabs (by decide) hk
  refine ⟨⟨set_obj o4 _, hD.base, own_set_obj f4 o4 (by decide) _, own_set_obj m4 o4 (by decide) _, own_set_obj hown o4 (by decide) _, own_set_obj d4 o4 (by decide) _⟩, ?_⟩
  have k1 : KS (fun k => B ≤ k) W w4 := (KS.of_gr (S := fun k => B ≤ k) g2).trans (KS.of_kp (S := fun k => B ≤ k) hk (fun b hb => (own_lt hd.tabs hb).2)) (fun _ _ h => h)
  exact (k1.below hW hB2 (fun _ h => h)).setCell (p := ⟨bd, 2, none⟩) hD.base _
/-- One mark more. -/
def markStep (x : List ByteArray × Nat) (a : ByteArray × ByteArray) : List ByteArray × Nat := if a.1 = cB then ([a.2], x.2) else (x.1 ++ [a.2], x.2 + 1)
/-- What the manifest's records make of tables and a generation. -/
noncomputable def replayT : List ByteArray → List ByteArray × Nat → Option (List ByteArray × Nat)
  | [], x => some x
  | r :: rs, x => match markR r with
    | some a => replayT rs (markStep x a)
    | none => none
theorem replayT_append : ∀ (a b : List ByteArray) (x : List ByteArray × Nat), replayT (a ++ b) x = (replayT a x).bind (replayT b)
  | [], b, x => rfl
  | r :: rs, b, x => by
    show replayT (r :: (rs ++ b)) x = (replayT (r :: rs) x).bind (replayT b)
    unfold replayT
    rcases markR r with _ | a
    · rfl
    · exact replayT_append rs b _
theorem replayT_succ {R : List ByteArray} {j : Nat} (h : j < R.length) {x y : List ByteArray × Nat} (hy : replayT (R.take j) x = some y) : replayT (R.take (j + 1)) x = match markR R[j] with
    | some a => some (markStep y a)
    | none => none := by
  rw [List.take_succ_eq_append_getElem h, replayT_append, hy]
  show replayT [R[j]] y = _
  unfold replayT
  rcases markR R[j] with _ | a <;> rfl
theorem replayT_none {R : List ByteArray} {j : Nat} (h : j < R.length) {x y : List ByteArray × Nat} (hy : replayT (R.take j) x = some y) (hn : markR R[j] = none) : replayT R x = none := by
  have h1 := replayT_succ h hy
  rw [hn] at h1
  rw [← List.take_append_drop (j + 1) R, replayT_append, h1]
  rfl
theorem replayT_len : ∀ {R : List ByteArray} {x y : List ByteArray × Nat}, replayT R x = some y → y.1.length ≤ x.1.length + R.length ∧ y.2 ≤ x.2 + R.length
  | [], x, y, h => by
    injection h with h
    subst h
    exact ⟨Nat.le_refl _, Nat.le_refl _⟩
  | r :: rs, x, y, h => by
    unfold replayT at h
    rcases hm : markR r with _ | a
    · rw [hm] at h; cases h
    · rw [hm] at h
      have h1 := replayT_len h
      have h2 : (markStep x a).1.length ≤ x.1.length + 1 ∧ (markStep x a).2 ≤ x.2 + 1 := by
        unfold markStep
        split
        · exact ⟨by simp, by omega⟩
        · exact ⟨by simp, by omega⟩
      rw [show (r :: rs).length = rs.length + 1 from rfl]
      omega
theorem mark_letter {r : ByteArray} {a : ByteArray × ByteArray} (h : markR r = some a) : a.1 = tabP ∨ a.1 = cB := by
  unfold markR at h
  split at h
  · split at h
    · rename_i hc
      injection h with h
      subst h
      have h1 := (Bool.and_eq_true_iff.1 hc).1
      rcases Bool.or_eq_true_iff.1 h1 with h2 | h2
      · exact .inl (eqS_iff.1 h2)
      · exact .inr (eqS_iff.1 h2)
    · cases h
  · cases h
end Go.Proofs.YtlnhbndghnkfmaaGreatDoor
namespace Go.Proofs.YtlnhbndghnkfmaaGreatDoor
open Go.RowKit

theorem sv_one1 (w : World) (s : ByteArray) (b : Nat) (hb : b = w.heap.size) : SV (w.alloc (.cells #[.string s] 9)) (.slice (some ⟨b, 0, none⟩) 1 1) [s] := by
  subst hb
  refine ⟨_, 1, rfl, Nat.le_refl _, ⟨by decide, fun h => by cases h⟩, fun j hj => ⟨w.heap.size, 0, rfl, ?_⟩⟩
  match j, hj with
  | 0, _ => rw [World.cell?_alloc_mark]; rfl
theorem moves_of {W : World} {v v' : Value} (h : v'.ownBlock = v.ownBlock ∨ v'.ownBlock = some W.heap.size) : Moves W v v' := by
  rcases h with e | e
  · exact .inl e
  · exact .inr fun k hk => by
      rw [e] at hk
      injection hk with hk
      omega
theorem wpList_push_sk {W : World} {ops : Array Oper} {rest : List Oper} {o : Oper} {a : Act} {Q : Exit → Act → World → Prop} (hgd : o.guard = none) (s x : Operand)
    (ho : o.op = .call { callee := .builtin .append, args := #[s, x], argTypes := #[28, 28] })
    (B : Nat) (v vx : Value) (L M : List ByteArray) (n m : Nat) (hn : n = L.length) (hm : m = M.length) (hs : a.eval s = v) (hown : SO W B v L) (hx : a.eval x = vx) (hxv : SV W vx M) (hlen : (n + m) * 16 ≤ 140737488355328) (hB : B ≤ W.heap.size)
    (h : ∀ A' c' w', SO w' B (.slice A' (n + m) c') (L ++ M) → Kp v.ownBlock W w' → Moves W v (.slice A' (n + m) c') → wpList Tryz.prog ops Q rest (a.put o.dst (.slice A' (n + m) c')) w') :
    wpList Tryz.prog ops Q (o :: rest) a W := by
  subst hn hm
  obtain ⟨i0, hi, hz0, hz1, hz2⟩ := info_parts infoString
  refine wpList_append_sl _ hgd s x 28 ho B 9 i0 _ 1 16 Tryz.underlying28 hi hz0 hz1 hz2 rfl (by decide) v L.length (L.map Value.string) hs hown vx M.length (M.map Value.string) hx
    hxv.sl (strs_one M) (by unfold maxLen; omega) hlen hB (L.length + M.length) rfl ?_
  intro A' c' w' hown' hgr hat
  refine h A' c' w' ?_ hgr (moves_of hat)
  unfold SO
  rw [List.length_append, List.map_append]
  exact hown'
/-- Amid the replay: what the tables' row is, and what has changed. -/
structure RepInv (w : World) (b0 : Option Nat) (B bd : Nat) (vF vM vD : Value) (L : List F) (M : List CR) (m : Nat) (D : List O) (vT : Value) (y : List ByteArray × Nat) (wr : World) : Prop where
  row : DRow wr B bd vF vM vT vD L M y.1 y.2 m D
  sep : ∀ b, vT.ownBlock = some b → w.heap.size ≤ b ∨ b0 = some b
  ks : KS (fun k => k = bd ∨ b0 = some k) w wr
theorem RepInv.gr {w wr w2 : World} {b0 : Option Nat} {B bd : Nat} {vF vM vD vT : Value} {L : List F} {M : List CR} {m : Nat} {D : List O} {y : List ByteArray × Nat} (h : RepInv w b0 B bd vF vM vD L M m D vT y wr) (q : Gr wr w2) : RepInv w b0 B bd vF vM vD L M m D vT y w2 :=
  ⟨h.row.gr q, h.sep, h.ks.trans (KS.of_gr (S := fun k => k = bd ∨ b0 = some k) q) (fun _ _ h => h)⟩
theorem ks_set {w wr : World} {b0 : Option Nat} {bd i : Nat} {v : Value} (h : KS (fun k => k = bd ∨ b0 = some k) w wr) : KS (fun k => k = bd ∨ b0 = some k) w (wr.setCell ⟨bd, i, none⟩ v) :=
  h.trans (KS.of_kp (S := fun k => k = bd) ((Kp.refl (some bd) wr).set (.inr rfl) i v) (fun b hb => by injection hb with hb; exact hb.symm)) (fun _ _ h => .inl h)
theorem RepInv.wipe {w wr : World} {b0 : Option Nat} {B bd : Nat} {vF vM vD vT : Value} {L : List F} {M : List CR} {m : Nat} {D : List O} {y : List ByteArray × Nat} (h : RepInv w b0 B bd vF vM vD L M m D vT y wr) :
    RepInv w b0 B bd vF vM vD L M m D (.slice none 0 0) ([], y.2) (wr.setCell ⟨bd, 2, none⟩ (.slice none 0 0)) :=
  ⟨drow_tabs h.row (SO.nil _ _), fun b hb => by simp [Value.ownBlock] at hb, ks_set h.ks⟩
theorem RepInv.more {w wr : World} {b0 : Option Nat} {B bd : Nat} {vF vM vD vT : Value} {L : List F} {M : List CR} {m : Nat} {D : List O} {y : List ByteArray × Nat} (h : RepInv w b0 B bd vF vM vD L M m D vT y wr) (g : Nat) :
    RepInv w b0 B bd vF vM vD L M m D vT (y.1, g) (wr.setCell ⟨bd, 3, none⟩ (.int .i64 (g : Int))) :=
  ⟨drow_gen h.row g, h.sep, ks_set h.ks⟩
theorem RepInv.push {w wr w2 w4 : World} {b0 : Option Nat} {B bd : Nat} {vF vM vD vT v4 : Value} {L : List F} {M : List CR} {m : Nat} {D : List O} {y : List ByteArray × Nat} {T4 : List ByteArray} (h : RepInv w b0 B bd vF vM vD L M m D vT y wr) (hB : B ≤ w.heap.size)
    (g2 : Gr wr w2) (hown : SO w4 B v4 T4) (hk : Kp vT.ownBlock w2 w4) (hm : Moves w2 vT v4) :
    RepInv w b0 B bd vF vM vD L M m D v4 (T4, y.2) (w4.setCell ⟨bd, 2, none⟩ v4) := by
  have hsz : B ≤ wr.heap.size := by have := h.ks.size; omega
  refine ⟨(tabs_fin (w := wr) (Below.refl _ _) h.row g2 hsz hown hk).1, fun b hb => ?_, ks_set ?_⟩
  · rcases hm with e | e
    · exact h.sep b (by rw [← e]; exact hb)
    · have := e b hb
      have := h.ks.size
      have := g2.size
      exact .inl (by omega)
  · exact (h.ks.trans (KS.of_gr (S := fun k => k = bd ∨ b0 = some k) g2) (fun _ _ h => h)).trans (KS.of_kp (S := fun k => vT.ownBlock = some k) hk (fun b hb => hb)) (fun i hi hs => by
      rcases h.sep i hs with h1 | h1
      · omega
      · exact .inr h1)
set_option maxRecDepth 100000 in
set_option maxHeartbeats 4000000 in
theorem replay_m (B Br bd : Nat) (vF vM vT0 vD vR : Value) (L : List F) (M : List CR) (g m : Nat) (D : List O) (R : List ByteArray) (w : World) (hD : DRow w B bd vF vM vT0 vD L M [] g m D) (hR : SO w Br vR R) (hTR : ∀ b, vT0.ownBlock = some b → vR.ownBlock ≠ some b) (hRl : R.length ≤ 1000000000000) (hg : g ≤ 1000000000000) (hs : ∀ r ∈ R, r.size ≤ maxLen) (hB : B ≤ w.heap.size) :
    Calls Tryz.prog 71 #[.pointer (some ⟨bd, 0, none⟩), vR] w fun e w' => ∃ o, e = .returned (.bool o) ∧ o = (replayT R ([], g)).isSome ∧ Below B w w' ∧ ∀ y, replayT R ([], g) = some y → ∃ vT, DRow w' B bd vF vM vT vD L M y.1 y.2 R.length D := by
  have HBT : Hid (∀ b, vT0.ownBlock = some b → B ≤ b) := Lib.hid (fun b hb => (own_lt hD.tabs hb).2)
  have HI0 : Hid (RepInv w vT0.ownBlock B bd vF vM vD L M m D vT0 ([], g) w) := Lib.hid ⟨hD, fun b hb => .inr hb, KS.of_gr (Gr.refl _)⟩
  obtain ⟨b0, hb0⟩ : ∃ x, x = vT0.ownBlock := ⟨_, rfl⟩
  rw [← hb0] at HI0 hTR HBT
  clear hb0
  have HMS := Lib.hid hs
  have hnb := own_ne_obj hR hD.obj (by decide)
  have HRK : Hid (∀ wr, KS (fun k => k = bd ∨ b0 = some k) w wr → SV wr vR R) := Lib.hid (fun wr k => SO.sv (own_ks hR k (fun b hb e => e.elim (fun e => hnb (by rw [hb, e])) (fun e => hTR b e hb))))
  obtain ⟨AR, cR, rfl, l1, hc63⟩ := own_form hR
  obtain ⟨n, hn⟩ : ∃ n, n = R.length := ⟨_, rfl⟩
  have HN := Lib.hid hn
  rw [← hn] at l1 hRl HRK ⊢
  have HB := Lib.hid (And.intro hB hD.base)
  clear hn hD hR hs hB hnb hTR
  go_enter Tryz.func71, Tryz.ntmps71
  go_wp2_with fail
  go_loopg [12] (n + 1) (fun kx s12 wr => ∃ (j : Nat), s12 = .int .i64 (j : Int) ∧ j ≤ n ∧ n - j ≤ kx ∧ Hid (∃ y vT, replayT (R.take j) ([], g) = some y ∧ RepInv w b0 B bd vF vM vD L M m D vT y wr))
  case atStart => exact ⟨0, rfl, Nat.zero_le _, by omega, Lib.hid ⟨_, _, rfl, HI0.out⟩⟩
  case round =>
    obtain ⟨j, rfl, hj, hkx, HI⟩ := hrel
    obtain ⟨y, vT, hy, hi⟩ := HI.out
    have HY := Lib.hid hy
    have HII := Lib.hid hi
    clear HI hy
    by_cases hlt : j < n
    · have hjR : j < R.length := by rw [← HN.out]; exact hlt
      have hsv := HRK.out _ hi.ks
      obtain ⟨A, c, e1, e2, -, e4⟩ := hsv
      injection e1 with ea eb ec
      subst ea
      obtain ⟨b, off, rfl, q0⟩ := e4 j hjR
      have hms := HMS.out _ (List.getElem_mem hjR)
      obtain ⟨r, hr⟩ : ∃ x, x = R[j] := ⟨_, rfl⟩
      have HR := Lib.hid hr
      rw [← hr] at q0 hms
      have HLN : Hid (y.1.length ≤ n ∧ y.2 ≤ g + n) := Lib.hid (by
        have h := replayT_len HY.out
        rw [List.length_take] at h
        have := HN.out
        simp only [List.length_nil] at h
        omega)
      have H1 := Lib.hid (fun w1 => markOf_any r hms w1)
      have u0 : (0 : Int) ≤ (j : Int) := by omega
      have u1 : (j : Int) < (n : Int) := by omega
      clear e2 e4 eb ec hms hr hi
      go_wp2_with fail
      refine (H1.out _).mono ?_
      rintro e w1 ⟨rfl, g1⟩
      have HI3 := Lib.hid (HII.out.gr g1)
      clear g1 q0 HII
      rcases hmk : markR r with _ | ⟨lt, nm⟩
      · have HF : Hid (replayT R ([], g) = none) := Lib.hid (replayT_none hjR HY.out (by rw [← HR.out]; exact hmk))
        unfold markV
        clear hmk
        go_wp2_with fail
        go_ret
        refine ⟨_, rfl, by rw [HF.out]; rfl, ?_, fun y h => by rw [HF.out] at h; cases h⟩
        exact HI3.out.ks.below (Below.refl _ _) HB.out.1 (fun i hi => hi.elim (fun e => by rw [e]; exact HB.out.2) (fun e => HBT.out i e))
      · have HMK := Lib.hid hmk
        have HS : Hid (replayT (R.take (j + 1)) ([], g) = some (markStep y (lt, nm))) := Lib.hid (by
          have h := replayT_succ hjR HY.out
          rw [← HR.out, HMK.out] at h
          exact h)
        have hobj := HI3.out.row.obj
        unfold markV
        clear hmk
        by_cases hc : lt = cB
        · have t3 : (lt.toList == [99]) = true := by rw [hc, cB_list]; rfl
          obtain ⟨W1, hW1⟩ : ∃ W, W = w1.setCell ⟨bd, 2, none⟩ (.slice none 0 0) := ⟨_, rfl⟩
          obtain ⟨y1, hy1⟩ : ∃ x, x = (([] : List ByteArray), y.2) := ⟨_, rfl⟩
          have HI1 : Hid (RepInv w b0 B bd vF vM vD L M m D (.slice none 0 0) y1 W1) := Lib.hid (by rw [hW1, hy1]; exact HI3.out.wipe)
          have z2 := obj_free (i := 2) hobj
          have c2w := obj_cell hobj (i := 2) rfl
          have HST : Hid (markStep y (lt, nm) = (y1.1 ++ [nm], y1.2)) := Lib.hid (by rw [hy1]; unfold markStep; rw [if_pos hc]; rfl)
          have HLN1 : Hid ((y1.1.length + 1) * 16 ≤ 140737488355328) := Lib.hid (by have := HLN.out; rw [hy1]; simp)
          clear hy1 hc hobj
          go_upto_region 10 with (fail)
          rw [← hW1]
          clear hW1 z2 t3 c2w
          obtain ⟨AT, kT, hvT, -, -⟩ := own_form HI1.out.row.tabs
          obtain ⟨nT, hnT⟩ : ∃ n, n = y1.1.length := ⟨_, rfl⟩
          have HNT := Lib.hid hnT
          have hi1 := HI1.out
          have hlT := HLN1.out
          rw [← hnT] at hvT hlT
          rw [hvT] at hi1
          have hobj := hi1.row.obj
          have HI2 : Hid (RepInv w b0 B bd vF vM vD L M m D (.slice AT nT kT) y1 W1) := Lib.hid hi1
          have c2 := obj_cell hobj (i := 2) rfl
          have HOBJ := Lib.hid hobj
          have HNE := Lib.hid (own_ne_obj hi1.row.tabs hobj (by decide))
          have HSZ : Hid (w.heap.size ≤ W1.heap.size) := Lib.hid hi1.ks.size
          clear hi1 hnT hobj HI1 hvT
          go_wp2_with (at_builtin; refine wpList_push_sk rfl (.tmp 44) (.tmp 46) rfl B (.slice AT nT kT) (.slice (some ⟨W1.heap.size, 0, none⟩) 1 1) y1.1 [nm] nT 1 HNT.out rfl rfl (HI2.out.row.tabs.gr ((Gr.refl _).alloc _)) rfl (sv_one1 _ nm _ rfl) hlT (by have := HSZ.out; have := HB.out.1; simp; omega) ?_)
          intro A4 k4 w4 hown4 hk4 hmv4
          have HN4 := Lib.hid (And.intro hown4 (And.intro hk4 hmv4))
          have z4 := obj_free (i := 2) (kp_obj hk4 (gr_obj ((Gr.refl _).alloc _) HOBJ.out) HNE.out)
          have e4 := obj_cell (kp_obj hk4 (gr_obj ((Gr.refl _).alloc _) HOBJ.out) HNE.out) (i := 2) rfl
          clear hown4 hk4 hmv4 hlT
          go_wp2_with fail
          go_roundg (n - (j + 1))
          case measure => omega
          case rel => exact ⟨j + 1, by go_num, by omega, Nat.le_refl _, Lib.hid ⟨_, _, HS.out, by rw [HST.out]; exact HI2.out.push HB.out.1 ((Gr.refl _).alloc _) HN4.out.1 HN4.out.2.1 HN4.out.2.2⟩⟩
        · have t3 : (lt.toList == [99]) = false := by
            rcases mark_letter HMK.out with h | h
            · have h : lt = tabP := h
              rw [h, tabP_list]; rfl
            · exact absurd h hc
          obtain ⟨gy, hgy⟩ : ∃ x, x = y.2 := ⟨_, rfl⟩
          have hlg : gy ≤ 2000000000000 := by have := HLN.out; omega
          obtain ⟨W1, hW1⟩ : ∃ W, W = w1.setCell ⟨bd, 3, none⟩ (.int .i64 ((gy : Int) + 1)) := ⟨_, rfl⟩
          obtain ⟨y1, hy1⟩ : ∃ x, x = (y.1, gy + 1) := ⟨_, rfl⟩
          have HI1 : Hid (RepInv w b0 B bd vF vM vD L M m D vT y1 W1) := Lib.hid (by rw [hW1, hy1, show ((gy : Int) + 1) = ((gy + 1 : Nat) : Int) from rfl]; exact HI3.out.more _)
          have z3 := obj_free (i := 3) hobj
          have c3 : w1.cell? ⟨bd, 3, none⟩ = some (.int .i64 (gy : Int)) := by rw [hgy]; exact obj_cell hobj (i := 3) rfl
          have hwr := wrap_succ (m := gy) (by omega)
          have HST : Hid (markStep y (lt, nm) = (y1.1 ++ [nm], y1.2)) := Lib.hid (by rw [hy1]; unfold markStep; rw [if_neg hc, hgy])
          have HLN1 : Hid ((y1.1.length + 1) * 16 ≤ 140737488355328) := Lib.hid (by have := HLN.out; rw [hy1]; show (y.1.length + 1) * 16 ≤ _; omega)
          clear hy1 hc hobj hgy
          go_upto_region 10 with (fail)
          rw [← hW1]
          clear hW1 z3 t3 c3 hwr hlg
          obtain ⟨AT, kT, hvT, -, -⟩ := own_form HI1.out.row.tabs
          obtain ⟨nT, hnT⟩ : ∃ n, n = y1.1.length := ⟨_, rfl⟩
          have HNT := Lib.hid hnT
          have hi1 := HI1.out
          have hlT := HLN1.out
          rw [← hnT] at hvT hlT
          rw [hvT] at hi1
          have hobj := hi1.row.obj
          have HI2 : Hid (RepInv w b0 B bd vF vM vD L M m D (.slice AT nT kT) y1 W1) := Lib.hid hi1
          have c2 := obj_cell hobj (i := 2) rfl
          have HOBJ := Lib.hid hobj
          have HNE := Lib.hid (own_ne_obj hi1.row.tabs hobj (by decide))
          have HSZ : Hid (w.heap.size ≤ W1.heap.size) := Lib.hid hi1.ks.size
          clear hi1 hnT hobj HI1 hvT
          go_wp2_with (at_builtin; refine wpList_push_sk rfl (.tmp 44) (.tmp 46) rfl B (.slice AT nT kT) (.slice (some ⟨W1.heap.size, 0, none⟩) 1 1) y1.1 [nm] nT 1 HNT.out rfl rfl (HI2.out.row.tabs.gr ((Gr.refl _).alloc _)) rfl (sv_one1 _ nm _ rfl) hlT (by have := HSZ.out; have := HB.out.1; simp; omega) ?_)
          intro A4 k4 w4 hown4 hk4 hmv4
          have HN4 := Lib.hid (And.intro hown4 (And.intro hk4 hmv4))
          have z4 := obj_free (i := 2) (kp_obj hk4 (gr_obj ((Gr.refl _).alloc _) HOBJ.out) HNE.out)
          have e4 := obj_cell (kp_obj hk4 (gr_obj ((Gr.refl _).alloc _) HOBJ.out) HNE.out) (i := 2) rfl
          clear hown4 hk4 hmv4 hlT
          go_wp2_with fail
          go_roundg (n - (j + 1))
          case measure => omega
          case rel => exact ⟨j + 1, by go_num, by omega, Nat.le_refl _, Lib.hid ⟨_, _, HS.out, by rw [HST.out]; exact HI2.out.push HB.out.1 ((Gr.refl _).alloc _) HN4.out.1 HN4.out.2.1 HN4.out.2.2⟩⟩
    · have hjn : j = R.length := by rw [← HN.out]; omega
      have hy := HY.out
      rw [hjn, List.take_length] at hy
      have HF : Hid (replayT R ([], g) = some y) := Lib.hid hy
      have hobj := hi.row.obj
      have z4 := obj_free (i := 4) hobj
      have c4 := obj_cell hobj (i := 4) rfl
      clear hjn hy hobj hi HY
      go_wp2_with fail
      go_ret
      refine ⟨_, rfl, by rw [HF.out]; rfl, ?_, fun y' h => ?_⟩
      · exact (ks_set HII.out.ks).below (Below.refl _ _) HB.out.1 (fun i hi => hi.elim (fun e => by rw [e]; exact HB.out.2) (fun e => HBT.out i e))
      · rw [HF.out] at h
        injection h with h
        subst h
        exact ⟨vT, drow_marks HII.out.row n⟩
end Go.Proofs.YtlnhbndghnkfmaaGreatDoor
