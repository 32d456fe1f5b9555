/- A play in memory: acceptors in a box, askings and votes in rows that the call owns. -/
import Derived.Test.YtboonfbbnidmbaaVoL
import Derived.Test.YtboonfbbnidmbaaObj
namespace Go.Proofs.Ytboonfbbnidmbaa
open Go.RowKit Vo
set_option linter.unusedSimpArgs false
set_option linter.unusedVariables false

def acl (a : Ac) : List Value := [.int .u64 (a.pr : Int), .int .u64 (a.at' : Int), .string a.val]
theorem acl_len (a : Ac) : (acl a).length = 3 := rfl
def L8 (f : Nat → Ac) : List Ac := [f 0, f 1, f 2, f 3, f 4, f 5, f 6, f 7]
theorem L8_len (f : Nat → Ac) : (L8 f).length = 8 := rfl
theorem L8_at (f : Nat → Ac) {m : Nat} (hm : m < 8) : (L8 f)[m]'hm = f m := by
  rcases (by omega : m = 0 ∨ m = 1 ∨ m = 2 ∨ m = 3 ∨ m = 4 ∨ m = 5 ∨ m = 6 ∨ m = 7) with rfl | rfl | rfl | rfl | rfl | rfl | rfl | rfl <;> rfl
theorem L8_set (f : Nat → Ac) {m : Nat} (hm : m < 8) (a : Ac) : (L8 f).set m a = L8 (setF f m a) := by
  rcases (by omega : m = 0 ∨ m = 1 ∨ m = 2 ∨ m = 3 ∨ m = 4 ∨ m = 5 ∨ m = 6 ∨ m = 7) with rfl | rfl | rfl | rfl | rfl | rfl | rfl | rfl <;> rfl
def accL (f : Nat → Ac) : List Value := (L8 f).flatMap acl
theorem accL_at (f : Nat → Ac) {m r : Nat} (hm : m < 8) (hr : r < 3) : (accL f)[m * 3 + r]? = (acl (f m))[r]? := by
  have h := rows_at acl 3 acl_len (L8 f) m r hm hr
  rw [L8_at f hm] at h
  exact h
/-- The acceptors lie in the box b. -/
def AccBox (w : World) (b : Nat) (f : Nat → Ac) : Prop := w.heap[b]? = some (.cells (accL f).toArray 37 (0, 0))
theorem AccBox.gr {w w' : World} {b : Nat} {f : Nat → Ac} (h : AccBox w b f) (g : Gr w w') : AccBox w' b f := gr_obj' g h
theorem AccBox.at {w : World} {b : Nat} {f : Nat → Ac} (h : AccBox w b f) {m : Nat} (hm : m < 8) : w.cell? ⟨b, m * 3, none⟩ = some (.int .u64 ((f m).pr : Int)) ∧ w.cell? ⟨b, m * 3 + 1, none⟩ = some (.int .u64 ((f m).at' : Int)) ∧ w.cell? ⟨b, m * 3 + 2, none⟩ = some (.string (f m).val) := by
  refine ⟨?_, ?_, ?_⟩
  · exact cell_of_obj h (by rw [List.getElem?_toArray]; exact accL_at f (r := 0) hm (by decide))
  · exact cell_of_obj h (by rw [List.getElem?_toArray]; exact accL_at f (r := 1) hm (by decide))
  · exact cell_of_obj h (by rw [List.getElem?_toArray]; exact accL_at f (r := 2) hm (by decide))
theorem accL_set (f : Nat → Ac) {m : Nat} (hm : m < 8) (a : Ac) : (((accL f).set (m * 3) (.int .u64 (a.pr : Int))).set (m * 3 + 1) (.int .u64 (a.at' : Int))).set (m * 3 + 2) (.string a.val) = accL (setF f m a) := by
  unfold accL
  have e0 := rows_set acl 3 acl_len (L8 f) m 0 hm (by decide) ⟨a.pr, (f m).at', (f m).val⟩ (.int .u64 (a.pr : Int)) (by rw [L8_at f hm]; rfl)
  rw [Nat.add_zero] at e0
  rw [e0]
  have h1 : m < ((L8 f).set m ⟨a.pr, (f m).at', (f m).val⟩).length := by rw [List.length_set]; exact hm
  have e1 := rows_set acl 3 acl_len ((L8 f).set m ⟨a.pr, (f m).at', (f m).val⟩) m 1 h1 (by decide) ⟨a.pr, a.at', (f m).val⟩ (.int .u64 (a.at' : Int)) (by rw [List.getElem_set_self]; rfl)
  rw [e1, List.set_set]
  have h2 : m < ((L8 f).set m ⟨a.pr, a.at', (f m).val⟩).length := by rw [List.length_set]; exact hm
  have e2 := rows_set acl 3 acl_len ((L8 f).set m ⟨a.pr, a.at', (f m).val⟩) m 2 h2 (by decide) a (.string a.val) (by rw [List.getElem_set_self]; rfl)
  rw [e2, List.set_set, L8_set f hm]
/-- An acceptor stored in its place. -/
theorem AccBox.put {w : World} {b : Nat} {f : Nat → Ac} (h : AccBox w b f) {m : Nat} (hm : m < 8) (p a : Nat) (s : ByteArray) :
    ∃ W, W = ((w.setCell ⟨b, m * 3, none⟩ (.int .u64 (p : Int))).setCell ⟨b, m * 3 + 1, none⟩ (.int .u64 (a : Int))).setCell ⟨b, m * 3 + 2, none⟩ (.string s) ∧ AccBox W b (setF f m ⟨p, a, s⟩) ∧ Kp (some b) w W ∧ ∀ w0 : World, Gr w0 w → w0.heap.size ≤ b → Gr w0 W := by
  refine ⟨_, rfl, ?_, (((Kp.refl (some b) w).set (.inr rfl) _ _).set (.inr rfl) _ _).set (.inr rfl) _ _, fun w0 g hb => ((g.set hb _ _).set hb _ _).set hb _ _⟩
  have h1 := vset_obj (i := m * 3) h (.int .u64 (p : Int))
  have h2 := vset_obj (i := m * 3 + 1) h1 (.int .u64 (a : Int))
  have h3 := vset_obj (i := m * 3 + 2) h2 (.string s)
  unfold AccBox
  rw [h3, ← accL_set f hm ⟨p, a, s⟩]
  simp only [List.setIfInBounds_toArray]
/-- An asking and where its votes lie. -/
structure AV where
  q : Vo.Ask
  A : Option Addr
  c : Nat
def AV.v (x : AV) : Value := .slice x.A x.q.votes.length x.c
def askc (x : AV) : List Value := [.int .u64 (x.q.bal : Int), .string x.q.own, x.v, .bool x.q.picked, .string x.q.val]
theorem askc_len (x : AV) : (askc x).length = 5 := rfl
def askcs (R : List AV) : List Value := R.flatMap askc
theorem askcs_len (R : List AV) : (askcs R).length = R.length * 5 := rows_len askc 5 askc_len R
theorem askcs_one (R : List AV) : ∀ u ∈ askcs R, u.oneCell' = true := by
  intro u hu
  obtain ⟨x, _, hu⟩ := List.mem_flatMap.1 hu
  unfold askc at hu
  simp only [List.mem_cons, List.not_mem_nil, or_false] at hu
  rcases hu with rfl | rfl | rfl | rfl | rfl <;> rfl
theorem infoAsk : (Try.prog.info? 41).map (fun i => (i.zero, i.size, i.bytes)) = some (some (.agg #[.int .u64 0, .string ⟨#[]⟩, .slice none 0 0, .bool false, .string ⟨#[]⟩]), 5, 72) := by kernel_rfl
def AskO (w : World) (B : Nat) (v : Value) (R : List AV) : Prop := w.ownsRow B 41 5 v R.length (askcs R)
/-- Two rows lie apart. -/
def Apart (u v : Value) : Prop := u.ownBlock = none ∨ u.ownBlock ≠ v.ownBlock
/-- How great a text may be. -/
def SzOk (s : ByteArray) : Prop := s.size ≤ 281474976710656
/-- What a play's parts may be, behind t of its triples. -/
structure FitP (p : Pl) (t : Nat) : Prop where
  acc : ∀ m, (p.acc m).pr ≤ 2000 ∧ (p.acc m).at' ≤ 2000 ∧ SzOk (p.acc m).val
  ask : ∀ q ∈ p.asked, q.bal ≤ 2000 ∧ q.bal ≠ 0 ∧ SzOk q.own ∧ SzOk q.val ∧ q.votes.length ≤ t ∧ ∀ v ∈ q.votes, FitVt v
  said : ∀ v ∈ p.said, FitVt v
  saidLen : p.said.length ≤ t
  askLen : p.asked.length ≤ t
/-- The play lies in memory. -/
structure PlM (w : World) (B b5 : Nat) (p : Pl) (R : List AV) (va vs : Value) : Prop where
  asked : p.asked = R.map (·.q)
  row : AskO w B va R
  votes : ∀ x ∈ R, VO w B x.v x.q.votes
  said : VO w B vs p.said
  apart : ∀ (i j : Nat) (hi : i < R.length) (hj : j < R.length), i ≠ j → Apart R[i].v R[j].v
  apartS : ∀ x ∈ R, Apart x.v vs
  acc : AccBox w b5 p.acc
theorem PlM.gr {w w' : World} {B b5 : Nat} {p : Pl} {R : List AV} {va vs : Value} (h : PlM w B b5 p R va vs) (g : Gr w w') : PlM w' B b5 p R va vs :=
  ⟨h.asked, own_gr h.row g, fun x hx => (h.votes x hx).gr g, h.said.gr g, h.apart, h.apartS, h.acc.gr g⟩
theorem PlM.start {w : World} {B b5 : Nat} (h : AccBox w b5 (fun _ => noAc)) : PlM w B b5 pl0 [] (.slice none 0 0) (.slice none 0 0) :=
  ⟨rfl, World.ownsRow_nil w B _ _, fun _ h => absurd h List.not_mem_nil, VO.nil w B, fun _ _ h => absurd h (Nat.not_lt_zero _), fun _ h => absurd h List.not_mem_nil, h⟩
theorem PlM.len {w : World} {B b5 : Nat} {p : Pl} {R : List AV} {va vs : Value} (h : PlM w B b5 p R va vs) : p.asked.length = R.length := by rw [h.asked, List.length_map]
theorem PlM.get {w : World} {B b5 : Nat} {p : Pl} {R : List AV} {va vs : Value} (h : PlM w B b5 p R va vs) {k : Nat} (hk : k < R.length) : p.asked[k]? = some R[k].q := by
  rw [h.asked, List.getElem?_map, List.getElem?_eq_getElem hk]
  rfl
/-- An asking's five cells. -/
theorem PlM.cells {w : World} {B b5 g n c : Nat} {p : Pl} {R : List AV} {vs : Value} (h : PlM w B b5 p R (.slice (some ⟨g, 0, none⟩) n c) vs) (hn : n = R.length) {k : Nat} (hk : k < R.length) :
    w.cell? ⟨g, k * 5, none⟩ = some (.int .u64 (R[k].q.bal : Int)) ∧ w.cell? ⟨g, k * 5 + 1, none⟩ = some (.string R[k].q.own) ∧ w.cell? ⟨g, k * 5 + 2, none⟩ = some R[k].v ∧ w.cell? ⟨g, k * 5 + 3, none⟩ = some (.bool R[k].q.picked) ∧ w.cell? ⟨g, k * 5 + 4, none⟩ = some (.string R[k].q.val) ∧ ∀ j, w.frozen? ⟨g, j, none⟩ = false := by
  subst hn
  have hr := h.row
  unfold AskO at hr
  have hl := askcs_len R
  have hb : k * 5 + 4 < R.length * 5 := by omega
  refine ⟨?_, ?_, ?_, ?_, ?_, fun j => hr.frozenAt j⟩
  · have e := rows_at askc 5 askc_len R k 0 hk (by decide)
    rw [Nat.add_zero] at e
    rw [hr.cellAt (k * 5) (by omega)]
    exact e
  · rw [hr.cellAt (k * 5 + 1) (by omega)]; exact rows_at askc 5 askc_len R k 1 hk (by decide)
  · rw [hr.cellAt (k * 5 + 2) (by omega)]; exact rows_at askc 5 askc_len R k 2 hk (by decide)
  · rw [hr.cellAt (k * 5 + 3) (by omega)]; exact rows_at askc 5 askc_len R k 3 hk (by decide)
  · rw [hr.cellAt (k * 5 + 4) (by omega)]; exact rows_at askc 5 askc_len R k 4 hk (by decide)
theorem apart_kept {w w' : World} {B n n' : Nat} {u v : Value} {xs ys : List Value} {t : TypeId} {s : Nat} (h : w.ownsRow B t s u n xs) (k : w.grownBy w' v.ownBlock) (ha : Apart u v) : w'.ownsRow B t s u n xs := World.ownsRow.kept h k ha
theorem snoc_get {α : Type} (R : List α) (z : α) {j : Nat} (hj : j < (R ++ [z]).length) : (∃ h : j < R.length, (R ++ [z])[j] = R[j]) ∨ (j = R.length ∧ (R ++ [z])[j] = z) := by
  by_cases h : j < R.length
  · exact .inl ⟨h, List.getElem_append_left h⟩
  · have e : j = R.length := by rw [List.length_append, List.length_singleton] at hj; omega
    subst e
    exact .inr ⟨rfl, by simp⟩
/-- An acceptor stored. -/
theorem PlM.putAcc {w W : World} {B b5 : Nat} {p : Pl} {R : List AV} {va vs : Value} (h : PlM w B b5 p R va vs) {f : Nat → Ac} (ha : AccBox W b5 f) (k : Kp (some b5) w W) : PlM W B b5 { p with acc := f } R va vs := by
  have keep : ∀ {t : TypeId} {s n : Nat} {u : Value} {xs : List Value}, w.ownsRow B t s u n xs → t ≠ 37 → W.ownsRow B t s u n xs := fun ho ht => World.ownsRow.kept ho k (.inr (own_ne_obj ho h.acc ht))
  exact ⟨h.asked, keep h.row (by decide), fun x hx => keep (h.votes x hx) (by decide), keep h.said (by decide), h.apart, h.apartS, ha⟩
/-- One asking more. -/
theorem PlM.push {w w' : World} {B b5 : Nat} {p : Pl} {R : List AV} {va va' vs : Value} (h : PlM w B b5 p R va vs) (q : Vo.Ask) (hq : q.votes = []) (hr : AskO w' B va' (R ++ [⟨q, Option.none, 0⟩])) (k : w.grownBy w' va.ownBlock) : PlM w' B b5 { p with asked := p.asked ++ [q] } (R ++ [⟨q, Option.none, 0⟩]) va' vs := by
  have keep : ∀ {n : Nat} {u : Value} {xs : List Value}, w.ownsRow B 44 4 u n xs → w'.ownsRow B 44 4 u n xs := fun ho => own_past ho h.row (by decide) k
  have hx0 : (⟨q, Option.none, 0⟩ : AV).v = .slice none 0 0 := by unfold AV.v; simp only [hq]; rfl
  refine ⟨by rw [List.map_append, ← h.asked]; rfl, hr, fun x hx => ?_, keep h.said, fun i j hi hj hij => ?_, fun x hx => ?_, vkp_obj k h.acc (fun e => own_ne_obj h.row h.acc (by decide) e.symm)⟩
  · rcases List.mem_append.1 hx with hx | hx
    · exact keep (h.votes x hx)
    · rw [List.mem_singleton] at hx
      subst hx
      rw [hx0]
      show VO w' B _ q.votes
      rw [hq]
      exact VO.nil w' B
  · rcases snoc_get R _ hi with ⟨h1, e1⟩ | ⟨h1, e1⟩
    · rcases snoc_get R _ hj with ⟨h2, e2⟩ | ⟨h2, e2⟩
      · rw [e1, e2]
        exact h.apart i j h1 h2 hij
      · rw [e1, e2, hx0]
        unfold Apart
        rcases hb : (R[i]).v.ownBlock with _ | b
        · exact .inl rfl
        · exact .inr (fun e => by cases e)
    · rw [e1, hx0]
      exact .inl rfl
  · rcases List.mem_append.1 hx with hx | hx
    · exact h.apartS x hx
    · rw [List.mem_singleton] at hx
      subst hx
      rw [hx0]
      exact .inl rfl
/-- One vote more of what was said. -/
theorem PlM.tell {w w' : World} {B b5 : Nat} {p : Pl} {R : List AV} {va vs vs' : Value} (h : PlM w B b5 p R va vs) (u : Vt) (hr : VO w' B vs' (p.said ++ [u])) (k : w.grownBy w' vs.ownBlock) (hw : vs'.ownBlock = vs.ownBlock ∨ vs'.ownBlock = some w.heap.size) : PlM w' B b5 { p with said := p.said ++ [u] } R va vs' := by
  refine ⟨h.asked, own_past h.row h.said (by decide) k, fun x hx => World.ownsRow.kept (h.votes x hx) k (h.apartS x hx), hr, h.apart, fun x hx => ?_, vkp_obj k h.acc (fun e => own_ne_obj h.said h.acc (by decide) e.symm)⟩
  rcases hw with e | e
  · unfold Apart
    rw [e]
    exact h.apartS x hx
  · unfold Apart
    rw [e]
    rcases hb : x.v.ownBlock with _ | b
    · exact .inl rfl
    · refine .inr fun e2 => ?_
      injection e2 with e2
      have := ((h.votes x hx).lt b hb).2
      omega
theorem map_set {α β : Type} (f : α → β) (R : List α) (k : Nat) (y : α) : (R.set k y).map f = (R.map f).set k (f y) := List.map_set
/-- An asking's row with a cell changed. -/
theorem askcs_set (R : List AV) {k r : Nat} (hk : k < R.length) (hr : r < 5) (y : AV) (u : Value) (hy : askc y = (askc R[k]).set r u) : (askcs R).set (k * 5 + r) u = askcs (R.set k y) := rows_set askc 5 askc_len R k r hk hr y u hy
theorem set_get {R : List AV} {k : Nat} {y : AV} {j : Nat} (hj : j < (R.set k y).length) : (j = k ∧ (R.set k y)[j] = y) ∨ (j ≠ k ∧ ∃ h' : j < R.length, (R.set k y)[j] = R[j]) := by
  by_cases e : j = k
  · subst e
    exact .inl ⟨rfl, by simp⟩
  · exact .inr ⟨e, by simpa using hj, by rw [List.getElem_set_ne (Ne.symm e)]⟩
theorem mem_set_or {R : List AV} {k : Nat} {y x : AV} (h : x ∈ R.set k y) : x = y ∨ ∃ (j : Nat) (hj : j < R.length), j ≠ k ∧ x = R[j] := by
  obtain ⟨j, hj, rfl⟩ := List.mem_iff_getElem.1 h
  rcases set_get hj with ⟨_, e⟩ | ⟨h1, h2, e⟩
  · exact .inl e
  · exact .inr ⟨j, h2, h1, e⟩
/-- Two cells of an asking changed: what was picked. -/
theorem PlM.pick {w W : World} {B b5 g n c : Nat} {p : Pl} {R : List AV} {vs : Value} (h : PlM w B b5 p R (.slice (some ⟨g, 0, none⟩) n c) vs) (hn : n = R.length) {k : Nat} (hk : k < R.length) (x : ByteArray)
    (hW : W = (w.setCell ⟨g, k * 5 + 3, none⟩ (.bool true)).setCell ⟨g, k * 5 + 4, none⟩ (.string x)) :
    PlM W B b5 { p with asked := p.asked.set k { R[k].q with picked := true, val := x } } (R.set k ⟨{ R[k].q with picked := true, val := x }, R[k].A, R[k].c⟩) (.slice (some ⟨g, 0, none⟩) n c) vs ∧ ∀ w0 : World, Gr w0 w → w0.heap.size ≤ B → Gr w0 W := by
  subst hn
  have hr := h.row
  unfold AskO at hr
  obtain ⟨s1, k1⟩ := hr.stored (k * 5 + 3) (.bool true)
  rw [askcs_set R hk (by decide) ⟨{ R[k].q with picked := true }, R[k].A, R[k].c⟩ (.bool true) rfl] at s1
  have hlen : R.length = (R.set k (⟨{ R[k].q with picked := true }, R[k].A, R[k].c⟩ : AV)).length := by rw [List.length_set]
  have hk1 : k < (R.set k (⟨{ R[k].q with picked := true }, R[k].A, R[k].c⟩ : AV)).length := by rw [List.length_set]; exact hk
  obtain ⟨s2, k2⟩ := s1.stored (k * 5 + 4) (.string x)
  rw [askcs_set _ hk1 (by decide) ⟨{ R[k].q with picked := true, val := x }, R[k].A, R[k].c⟩ (.string x) (by rw [List.getElem_set_self]; rfl), List.set_set] at s2
  rw [← hW] at s2 k2
  have kk : w.grownBy W (some g) := k1.trans k2
  have keep : ∀ {n : Nat} {u : Value} {xs : List Value}, w.ownsRow B 44 4 u n xs → W.ownsRow B 44 4 u n xs := fun ho => own_past ho hr (by decide) kk
  refine ⟨⟨by rw [map_set, ← h.asked], ?_, fun y hy => ?_, keep h.said, fun i j hi hj hij => ?_, fun y hy => ?_, vkp_obj kk h.acc (fun e => own_ne_obj hr h.acc (by decide) e.symm)⟩, fun w0 g0 hB => gr_grown g0 hr hB kk⟩
  · unfold AskO
    rw [List.length_set]
    exact s2
  · rcases mem_set_or hy with rfl | ⟨j, hj, _, rfl⟩
    · exact keep (h.votes R[k] (List.getElem_mem hk))
    · exact keep (h.votes _ (List.getElem_mem hj))
  · have hv : ∀ {i : Nat} (hi : i < (R.set k (⟨{ R[k].q with picked := true, val := x }, R[k].A, R[k].c⟩ : AV)).length) (hi' : i < R.length), ((R.set k (⟨{ R[k].q with picked := true, val := x }, R[k].A, R[k].c⟩ : AV))[i]).v = R[i].v := fun hi hi' => by
      rcases set_get hi with ⟨e0, e⟩ | ⟨_, _, e⟩
      · subst e0
        rw [e]
        rfl
      · rw [e]
    have hi' : i < R.length := by simpa using hi
    have hj' : j < R.length := by simpa using hj
    rw [hv hi hi', hv hj hj']
    exact h.apart i j hi' hj' hij
  · rcases mem_set_or hy with rfl | ⟨j, hj, _, rfl⟩
    · exact h.apartS R[k] (List.getElem_mem hk)
    · exact h.apartS _ (List.getElem_mem hj)
/-- One vote more for an asking: its row has grown, and the slice is stored. -/
theorem PlM.vote {w w1 W : World} {B b5 g n c : Nat} {p : Pl} {R : List AV} {vs : Value} (h : PlM w B b5 p R (.slice (some ⟨g, 0, none⟩) n c) vs) (hn : n = R.length) {k : Nat} (hk : k < R.length) (u : Vt) {A' : Option Addr} {c' : Nat}
    (hv : VO w1 B (.slice A' (R[k].q.votes.length + 1) c') (R[k].q.votes ++ [u])) (hg : w.grownBy w1 R[k].v.ownBlock) (hf : (Value.slice A' (R[k].q.votes.length + 1) c').ownBlock = R[k].v.ownBlock ∨ (Value.slice A' (R[k].q.votes.length + 1) c').ownBlock = some w.heap.size)
    (hW : W = w1.setCell ⟨g, k * 5 + 2, none⟩ (.slice A' (R[k].q.votes.length + 1) c')) :
    PlM W B b5 { p with asked := p.asked.set k { R[k].q with votes := R[k].q.votes ++ [u] } } (R.set k ⟨{ R[k].q with votes := R[k].q.votes ++ [u] }, A', c'⟩) (.slice (some ⟨g, 0, none⟩) n c) vs ∧ ∀ w0 : World, Gr w0 w → w0.heap.size ≤ B → Gr w0 W := by
  subst hn
  have hvk := h.votes _ (List.getElem_mem hk)
  have hr : w1.ownsRow B 41 5 (.slice (some ⟨g, 0, none⟩) R.length c) R.length (askcs R) := own_past h.row hvk (by decide) hg
  have hys : (⟨{ R[k].q with votes := R[k].q.votes ++ [u] }, A', c'⟩ : AV).v = .slice A' (R[k].q.votes.length + 1) c' := by unfold AV.v; simp
  obtain ⟨s1, k1⟩ := hr.stored (k * 5 + 2) (.slice A' (R[k].q.votes.length + 1) c')
  rw [askcs_set R hk (by decide) ⟨{ R[k].q with votes := R[k].q.votes ++ [u] }, A', c'⟩ _ (by unfold askc; rw [hys]; rfl)] at s1
  rw [← hW] at s1 k1
  have keep1 : ∀ {n : Nat} {u : Value} {xs : List Value}, w1.ownsRow B 44 4 u n xs → W.ownsRow B 44 4 u n xs := fun ho => own_past ho hr (by decide) k1
  have hvW : VO W B (.slice A' (R[k].q.votes.length + 1) c') (R[k].q.votes ++ [u]) := keep1 hv
  have hnew : ∀ v : Value, (∃ (m : Nat) (xs : List Value), w.ownsRow B 44 4 v m xs) → Apart v R[k].v → Apart v (.slice A' (R[k].q.votes.length + 1) c') := fun v ⟨m, xs, ho⟩ ha => by
    rcases hf with e | e
    · unfold Apart
      rw [e]
      exact ha
    · unfold Apart
      rw [e]
      rcases hb : v.ownBlock with _ | b
      · exact .inl rfl
      · refine .inr fun e2 => ?_
        injection e2 with e2
        have := (ho.lt b hb).2
        omega
  have hnew' : ∀ v : Value, (∃ (m : Nat) (xs : List Value), w.ownsRow B 44 4 v m xs) → Apart R[k].v v → Apart (.slice A' (R[k].q.votes.length + 1) c') v := fun v ⟨m, xs, ho⟩ ha => by
    rcases hf with e | e
    · unfold Apart
      rw [e]
      exact ha
    · unfold Apart
      rw [e]
      refine .inr fun e2 => ?_
      have := (ho.lt _ e2.symm).2
      omega
  have hsaid : VO w1 B vs p.said := World.ownsRow.kept h.said hg (by
    rcases h.apartS _ (List.getElem_mem hk) with e | e
    · rw [e]
      rcases hb : vs.ownBlock with _ | b
      · exact .inl rfl
      · exact .inr (fun q => by cases q)
    · rcases hb : vs.ownBlock with _ | b
      · exact .inl rfl
      · exact .inr (fun q => e (by rw [hb]; exact q.symm)))
  have hacc1 : AccBox w1 b5 p.acc := vkp_obj hg h.acc (fun e => own_ne_obj hvk h.acc (by decide) e.symm)
  refine ⟨⟨by rw [map_set, ← h.asked], ?_, fun y hy => ?_, keep1 hsaid, fun i j hi hj hij => ?_, fun y hy => ?_, vkp_obj k1 hacc1 (fun e => own_ne_obj hr hacc1 (by decide) e.symm)⟩, fun w0 g0 hB => gr_grown (gr_grown g0 hvk hB hg) hr hB k1⟩
  · unfold AskO
    rw [List.length_set]
    exact s1
  · rcases mem_set_or hy with rfl | ⟨j, hj, hjk, rfl⟩
    · rw [hys]
      exact hvW
    · exact keep1 (World.ownsRow.kept (h.votes _ (List.getElem_mem hj)) hg (h.apart j k hj hk hjk))
  · rcases set_get hi with ⟨e1, f1⟩ | ⟨e1, h1, f1⟩
    · rcases set_get hj with ⟨e2, f2⟩ | ⟨e2, h2, f2⟩
      · omega
      · rw [f1, f2, hys]
        exact hnew' _ ⟨_, _, h.votes _ (List.getElem_mem h2)⟩ (h.apart k j hk h2 (Ne.symm e2))
    · rcases set_get hj with ⟨e2, f2⟩ | ⟨e2, h2, f2⟩
      · rw [f1, f2, hys]
        exact hnew _ ⟨_, _, h.votes _ (List.getElem_mem h1)⟩ (h.apart i k h1 hk e1)
      · rw [f1, f2]
        exact h.apart i j h1 h2 hij
  · rcases mem_set_or hy with rfl | ⟨j, hj, _, rfl⟩
    · rw [hys]
      exact hnew' _ ⟨_, _, h.said⟩ (h.apartS _ (List.getElem_mem hk))
    · exact h.apartS _ (List.getElem_mem hj)
end Go.Proofs.Ytboonfbbnidmbaa
