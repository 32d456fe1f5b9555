/- Walks: alone, the logs with the operations on one key alone. -/
import Derived.Test.YtaldgjcbbjjceaaGVsN
import Derived.Test.YtaldgjcbbjjceaaG08
import Derived.Test.YtaldgjcbbjjceaaG22
namespace Go.Proofs.Ytaldgjcbbjjceaa
open Go.RowKit Go.Joins
set_option linter.unusedSimpArgs false
set_option linter.unusedVariables false

def shortB (key : ByteArray) : ByteArray := if key = ⟨#[111, 116, 104, 101, 114, 47, 97]⟩ then ⟨#[98]⟩ else ⟨#[97]⟩
def othO (key : ByteArray) : TO := ⟨1, ⟨#[111, 116, 104, 101, 114, 47]⟩ ++ shortB key, ⟨#[]⟩, 1⟩
def alF (key : ByteArray) (ops : List TO) : List TO := ops.filter fun o => eqS o.key key
def alO (key : ByteArray) (ops : List TO) : List TO := if (alF key ops).length = 0 then [othO key] else alF key ops
def alT (key : ByteArray) (t : TX) : TX := ⟨t.origin, t.seq, t.stamp, t.deps, alO key t.ops⟩
/-- The logs with the operations on the key alone. -/
def alL (key : ByteArray) (l : LG) : LG := fun i => (l i).map (alT key)
/-- On the way: the logs below i are done, of log i the first k. -/
def alX (key : ByteArray) (l : LG) (i k : Nat) : LG := fun j => if j < i then (l j).map (alT key) else if j = i then ((l j).take k).map (alT key) ++ (l j).drop k else l j
theorem alX_zero (key : ByteArray) (l : LG) (j : Nat) : alX key l 0 0 j = l j := by
  unfold alX
  rw [if_neg (Nat.not_lt_zero _)]
  split
  · simp
  · rfl
theorem alX_done (key : ByteArray) (l : LG) (i j : Nat) : alX key l i ((l i).length) j = alX key l (i + 1) 0 j := by
  unfold alX
  by_cases h1 : j < i
  · rw [if_pos h1, if_pos (by omega)]
  · rw [if_neg h1]
    by_cases h2 : j = i
    · subst h2
      rw [if_pos rfl, if_pos (by omega)]
      simp
    · rw [if_neg h2, if_neg (by omega)]
      split <;> simp
theorem alX_all (key : ByteArray) (l : LG) {j : Nat} (hj : j < 8) : alX key l 8 0 j = alL key l j := by
  unfold alX alL
  rw [if_pos hj]
theorem alX_at {key : ByteArray} {l : LG} {i k : Nat} (hk : k < (l i).length) : (alX key l i k i)[k]? = some (l i)[k] := by
  unfold alX
  rw [if_neg (Nat.lt_irrefl _), if_pos rfl, List.getElem?_append_right (by simp; omega)]
  simp [Nat.min_eq_left (Nat.le_of_lt hk), hk]
theorem alX_len (key : ByteArray) (l : LG) (i k j : Nat) : (alX key l i k j).length = (l j).length := by
  unfold alX
  split
  · simp
  · split
    · simp; omega
    · rfl
theorem alX_set {key : ByteArray} {l : LG} {i k : Nat} (hk : k < (l i).length) : (alX key l i k i).set k (alT key (l i)[k]) = alX key l i (k + 1) i := by
  unfold alX
  rw [if_neg (Nat.lt_irrefl _), if_pos rfl, if_neg (Nat.lt_irrefl _), if_pos rfl, List.set_append_right _ _ (by simp; omega)]
  have e : (l i).take (k + 1) = (l i).take k ++ [(l i)[k]] := by rw [List.take_add_one, List.getElem?_eq_getElem hk]; rfl
  have d : (l i).drop k = (l i)[k] :: (l i).drop (k + 1) := List.drop_eq_getElem_cons hk
  rw [e, d, List.map_append, List.append_assoc]
  have hl : k - (((l i).take k).map (alT key)).length = 0 := by simp; omega
  rw [hl]
  rfl
theorem alX_ne {key : ByteArray} {l : LG} {i k j : Nat} (h : j ≠ i) : alX key l i k j = alX key l i (k + 1) j := by
  unfold alX
  rw [if_neg h, if_neg h]
theorem alF_next {key : ByteArray} {ops : List TO} {j : Nat} (h : j < ops.length) : alF key (ops.take (j + 1)) = alF key (ops.take j) ++ (if eqS ops[j].key key = true then [ops[j]] else []) := by
  unfold alF
  rw [List.take_succ_eq_append_getElem h, List.filter_append]
  congr 1
  by_cases e : eqS ops[j].key key = true
  · rw [if_pos e]; simp [e]
  · rw [if_neg e]; simp [e]
theorem alF_len (key : ByteArray) (ops : List TO) : (alF key ops).length ≤ ops.length := List.length_filter_le _ _

/-- append of one operation to a row of the call's own. -/
theorem wpList_push_to {W w0 : World} {ops : Array Oper} {rest : List Oper} {o : Oper} {a : Act} {Q : Exit → Act → World → Prop} (hw : Region.wanted o (yielded ops a.tmps) = true) (s x : Operand)
    (ho : o.op = .call { callee := .builtin .append, args := #[s, x], argTypes := #[42, 42] })
    (v vx : Value) (L M : List TO) (n m : Nat) (hn : n = L.length) (hm : m = M.length) (hs : a.eval s = v) (hown : TOO W w0.heap.size v L) (hx : a.eval x = vx) (hxv : TOV W vx M) (hlen : (n + m) * 48 ≤ 140737488355328) (hg : Gr w0 W)
    (h : ∀ A' c' w', TOO w' w0.heap.size (.slice A' (n + m) c') (L ++ M) → Gr w0 w' → wpList Try.prog ops Q rest (a.put o.dst (.slice A' (n + m) c')) w') :
    wpList Try.prog ops Q (o :: rest) a W := by
  subst hn hm
  obtain ⟨i0, hi, hz0, hz1, hz2⟩ := info_parts infoTOp
  have hsz := hg.size
  have hone : ∀ u ∈ tocells M, u.oneCell' = true := by
    intro u hu
    obtain ⟨f, _, hf⟩ := List.mem_flatMap.1 hu
    unfold tocell at hf
    simp only [List.mem_cons, List.not_mem_nil, or_false] at hf
    rcases hf with rfl | rfl | rfl | rfl <;> rfl
  refine Go.BigFrame.wpList_want hw (fun K hK => ?_)
  refine wp_append_sl W s x 42 ho w0.heap.size 41 i0 _ 4 48 Try.underlying42 hi hz0 hz1 hz2 rfl (by decide) v L.length (tocells L) hs hown vx M.length (tocells M) hx
    hxv.sl hone (by unfold maxLen; omega) hlen hsz (L.length + M.length) rfl ?_
  intro A' c' w' hown' hgr _
  refine hK _ _ (h A' c' w' ?_ (gr_of_grown hg hown hgr hsz))
  unfold TOO
  rw [List.length_append]
  unfold tocells at hown' ⊢
  rw [List.flatMap_append]
  exact hown'
theorem TOO.txn {w w' : World} {B g n c : Nat} {xs : List Value} {v : Value} {ops : List TO} (hv : TOO w B v ops) (ho : w.ownsRow B 44 12 (.slice (some ⟨g, 0, none⟩) n c) n xs) (k : Kp (some g) w w') : TOO w' B v ops :=
  World.ownsRow.kept hv k (.inr (own_types ho hv (by decide) (b := g) rfl))
theorem XN.other {w w' : World} {B g n c : Nat} {xs : List Value} {v : Value} {L : List TX} (h : XN w B v L) (ho : w.ownsRow B 44 12 (.slice (some ⟨g, 0, none⟩) n c) n xs) (hd : v.ownBlock ≠ some g) (k : Kp (some g) w w') : XN w' B v L := by
  obtain ⟨R, h1, h2, h3⟩ := h
  exact ⟨R, h1, World.ownsRow.kept h2 k (.inr hd), fun r hr => (h3 r hr).txn ho k⟩
theorem XN.put {w : World} {B g n c k : Nat} {L : List TX} (h : XN w B (.slice (some ⟨g, 0, none⟩) n c) L) (hk : k < L.length) (s : S3) (ops : List TO) (hs : TOO w B s.v ops) :
    XN (w.setCell ⟨g, k * 12 + 11, none⟩ s.v) B (.slice (some ⟨g, 0, none⟩) n c) (L.set k ⟨L[k].origin, L[k].seq, L[k].stamp, L[k].deps, ops⟩) ∧ ∃ xs, w.ownsRow B 44 12 (.slice (some ⟨g, 0, none⟩) n c) n xs := by
  obtain ⟨R, rfl, h2, h3⟩ := h
  have hkR : k < R.length := by rw [← texts_len R]; exact hk
  have hn : n = R.length := by
    rcases World.ownsRow.form h2 (by omega) with ⟨_, _, e, _⟩
    injection e
  have ho : w.ownsRow B 44 12 (.slice (some ⟨g, 0, none⟩) n c) n (trs R) := by
    have := h2
    unfold XO at this
    rw [← hn] at this
    exact this
  refine ⟨?_, _, ho⟩
  have hkp : Kp (some g) w (w.setCell ⟨g, k * 12 + 11, none⟩ s.v) := (Kp.refl _ _).set (.inr rfl) _ _
  have et : (texts R)[k] = R[k].1 := by simp [texts]
  obtain ⟨t', ht'⟩ : ∃ t' : TX, t' = ⟨R[k].1.origin, R[k].1.seq, R[k].1.stamp, R[k].1.deps, ops⟩ := ⟨_, rfl⟩
  refine ⟨R.set k (t', s), ?_, ?_, ?_⟩
  · rw [et]
    unfold texts
    rw [List.map_set, ht']
  · have h1 := (World.ownsRow.stored ho (k * 12 + 11) s.v).1
    unfold XO
    rw [List.length_set, ← hn]
    have e : (trs R).set (k * 12 + 11) s.v = trs (R.set k (t', s)) := rows_set trcells 12 trcells_len R k 11 hkR (by decide) (t', s) s.v (by rw [ht']; rfl)
    rw [← e]
    exact h1
  · intro r hr
    rcases List.mem_or_eq_of_mem_set hr with h | h
    · exact (h3 r h).txn ho hkp
    · subst h
      show TOO _ B s.v t'.ops
      rw [ht']
      exact hs.txn ho hkp
set_option maxRecDepth 100000 in
theorem short_any (key : ByteArray) (w : World) : Calls Try.prog 42 #[.string key] w fun e w' => e = .returned (.string (shortB key)) ∧ w' = w := by
  by_cases h : key = ⟨#[111, 116, 104, 101, 114, 47, 97]⟩
  · have h1 : (key.toList == [111, 116, 104, 101, 114, 47, 97]) = true := by rw [h]; decide +kernel
    have e : shortB key = ⟨#[98]⟩ := if_pos h
    rw [e]
    go_enter Try.func42, Try.ntmps42
    go_wp2
    go_ret
    exact ⟨rfl, rfl⟩
  · have h1 : (key.toList == [111, 116, 104, 101, 114, 47, 97]) = false := by
      rw [Bool.eq_false_iff]
      intro k
      exact h (eqS_iff.1 (show eqS key ⟨#[111, 116, 104, 101, 114, 47, 97]⟩ = true from by unfold eqS; rw [← k]; congr 1; decide +kernel))
    have e : shortB key = ⟨#[97]⟩ := if_neg h
    rw [e]
    go_enter Try.func42, Try.ntmps42
    go_wp2
    go_ret
    exact ⟨rfl, rfl⟩
/-- What the rounds of alone leave. -/
structure AlS (w : World) (B P : Nat) (us : Nat → S3) (L : LG) (wr : World) : Prop where
  zb : LBox wr (w.heap.size + 1) Z3
  ob : LBox wr P us
  ln : LN wr B us L
  gr : Gr w wr
theorem AlS.next {w : World} {B P : Nat} {us : Nat → S3} {L : LG} {wr w' : World} (h : AlS w B P us L wr) (g : Gr wr w') : AlS w B P us L w' :=
  ⟨h.zb.gr g, h.ob.gr g, h.ln.mid (Mid.of_gr g), h.gr.trans g⟩
theorem AlS.congr {w : World} {B P : Nat} {us : Nat → S3} {L L' : LG} {wr : World} (h : AlS w B P us L wr) (e : ∀ j, j < 8 → L j = L' j) : AlS w B P us L' wr :=
  ⟨h.zb, h.ob, fun j hj => by rw [← e j hj]; exact h.ln j hj, h.gr⟩
theorem AlS.put {w : World} {B P : Nat} {us : Nat → S3} {l : LG} {key : ByteArray} {i k g : Nat} {wr : World} (h : AlS w B P us (alX key l i k) wr) (hd : DisU us) (hi : i < 8) (hk : k < (l i).length) (hg : (us i).a = some ⟨g, 0, none⟩) (hB : w.heap.size ≤ B) (s : S3) (hs : TOO wr B s.v (alO key (l i)[k].ops)) :
    AlS w B P us (alX key l i (k + 1)) (wr.setCell ⟨g, k * 12 + 11, none⟩ s.v) := by
  have hx := h.ln i hi
  rw [hg] at hx
  have hkL : k < (alX key l i k i).length := by rw [alX_len]; exact hk
  obtain ⟨h1, xs, ho⟩ := hx.put hkL s _ hs
  have eg : (alX key l i k i)[k] = (l i)[k] := by
    have := alX_at (key := key) hk
    rw [List.getElem?_eq_getElem hkL] at this
    exact Option.some.inj this
  have hkp : Kp (some g) wr (wr.setCell ⟨g, k * 12 + 11, none⟩ s.v) := (Kp.refl _ _).set (.inr rfl) _ _
  have hBg : B ≤ g := (World.ownsRow.lt (h := ho) g rfl).1
  have hne : ∀ {b : Nat} {cs : Array Value} {fr : Nat × Nat}, wr.heap[b]? = some (.cells cs 24 fr) → g ≠ b := fun hb e => own_ne_obj ho hb (by decide) (by rw [e]; rfl)
  refine ⟨h.zb.far (hne h.zb.box) _, h.ob.far (hne h.ob.box) _, fun j hj => ?_, h.gr.setCell (by show w.heap.size ≤ g; omega) _⟩
  by_cases e : j = i
  · subst e
    rw [hg, ← alX_set hk]
    rw [eg] at h1
    exact h1
  · rw [← alX_ne e]
    exact (h.ln j hj).other ho (hd i j hi hj (Ne.symm e) g (by unfold S3.v; rw [hg]; rfl)) hkp
end Go.Proofs.Ytaldgjcbbjjceaa
