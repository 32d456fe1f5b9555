/- The law RuleOnce, and the mathematics that it alone wants: identifiers by their members. -/
import Derived.Test.YtnjmgknicffcbaaGreatDoorZr01
import Derived.Test.YtnjmgknicffcbaaGreatDoorZr02
import Derived.Test.YtnjmgknicffcbaaGreatDoorZr03
import Derived.Test.YtnjmgknicffcbaaGreatDoorZr04
import Derived.Test.YtnjmgknicffcbaaGreatDoorZr05
import Derived.Test.YtnjmgknicffcbaaGreatDoorZr06
import Derived.Test.YtnjmgknicffcbaaGreatDoorZr07
import Derived.Test.YtnjmgknicffcbaaGreatDoorZr08
import Derived.Test.YtnjmgknicffcbaaGreatDoorZr09
import Derived.Test.YtnjmgknicffcbaaGreatDoorZr10
import Derived.Test.YtnjmgknicffcbaaGreatDoorZr11
import Derived.Test.YtnjmgknicffcbaaGreatDoorZr12
import Derived.Test.YtnjmgknicffcbaaGreatDoorZr13
import Derived.Test.YtnjmgknicffcbaaGreatDoorZr14
import Derived.Test.YtnjmgknicffcbaaGreatDoorZr15
import Derived.Test.YtnjmgknicffcbaaGreatDoorZr16
import Derived.Test.YtnjmgknicffcbaaGreatDoorZr17
import Derived.Test.YtnjmgknicffcbaaGreatDoorZr18
import Derived.Test.YtnjmgknicffcbaaGreatDoorZr19
import Derived.Test.YtnjmgknicffcbaaGreatDoorZr20
import Derived.Test.YtnjmgknicffcbaaGreatDoorZr21
import Derived.Test.YtnjmgknicffcbaaGreatDoorZr22
import Derived.Test.YtnjmgknicffcbaaGreatDoorZr23
import Derived.Test.YtnjmgknicffcbaaGreatDoorZr24
import Derived.Test.YtnjmgknicffcbaaGreatDoorZr25
import Derived.Test.YtnjmgknicffcbaaGreatDoorZr26
import Derived.Test.YtnjmgknicffcbaaGreatDoorZr27
import Derived.Test.YtnjmgknicffcbaaGreatDoorZr28
import Derived.Test.YtnjmgknicffcbaaGreatDoorZr29
import Derived.Test.YtnjmgknicffcbaaGreatDoorZr30
import Derived.Test.YtnjmgknicffcbaaGreatDoorZr31
import Derived.Test.YtnjmgknicffcbaaGreatDoorZr32
import Derived.Test.YtnjmgknicffcbaaGreatDoorZr33
import Derived.Test.YtnjmgknicffcbaaGreatDoorZr34
import Derived.Test.YtnjmgknicffcbaaGreatDoorZr35
import Derived.Test.YtnjmgknicffcbaaGreatDoorZr36
import Derived.Test.YtnjmgknicffcbaaGreatDoorZr37
import Derived.Test.YtnjmgknicffcbaaGreatDoorZr38
import Derived.Test.YtnjmgknicffcbaaGreatDoorZr39
import Derived.Test.YtnjmgknicffcbaaGreatDoorZr40
import Derived.Test.YtnjmgknicffcbaaGreatDoorZr41
import Derived.Test.YtnjmgknicffcbaaGreatDoorZr42
import Derived.Test.YtnjmgknicffcbaaGreatDoorZr43
import Derived.Test.YtnjmgknicffcbaaGreatDoorZr44
import Derived.Test.YtnjmgknicffcbaaGreatDoorZr45
import Derived.Test.YtnjmgknicffcbaaGreatDoorZr46
import Derived.Test.YtnjmgknicffcbaaGreatDoorZr47
import Derived.Test.YtnjmgknicffcbaaGreatDoorZr48
import Derived.Test.YtnjmgknicffcbaaGreatDoorZr49
import Derived.Test.YtnjmgknicffcbaaGreatDoorZr50
import Derived.Test.YtnjmgknicffcbaaGreatDoorZr51
namespace Go.Proofs.YtnjmgknicffcbaaGreatDoor
open Go.RowKit Go.Joins
set_option linter.unusedSimpArgs false
set_option linter.unusedVariables false

theorem rule_self {L : List RU} {i : Nat} (hi : i < L.length) (h : fInt L L[i].key = (i : Int)) : ruleR L L[i].key = L[i] := by
  unfold fInt at h
  cases e : fIdx L L[i].key with
  | none => rw [e] at h; simp only at h; omega
  | some j =>
    rw [e] at h
    simp only at h
    have hji : j = i := by omega
    subst hji
    exact ruleR_some e hi
theorem form_own {L : List RU} {m : Int} {ops : List TO} (h : formC L m ops = 0) {o : TO} (ho : o ∈ ops) (hk : o.kind = 4) (h8 : (ruleR L o.key).k = 8) : ownB m o.elem = true := by
  have hg := (form_ok h).2.2.2 o ho
  unfold goodD at hg
  rw [Bool.and_eq_true, Bool.and_eq_true] at hg
  have hb := hg.1.2
  unfold badIdD at hb
  rw [decide_eq_true h8, decide_eq_true hk] at hb
  simpa using hb
theorem own_uniq {e : ByteArray} {a b : Int} (h : ownB a e = true) (k : ownB b e = true) : a = b := by
  unfold ownB at h k
  split at h
  · next n hn =>
    rw [hn] at k
    simp only [Bool.and_eq_true, decide_eq_true_eq] at h k
    omega
  · cases h
/-- The element that an operation adds to the key. -/
def pickA (key : ByteArray) (o : TO) : Option ByteArray := if (decide (o.kind = 4) && eqS o.key key) = true then some o.elem else none
theorem pickA_some {key e : ByteArray} {o : TO} (h : pickA key o = some e) : o.kind = 4 ∧ o.key = key ∧ o.elem = e := by
  unfold pickA at h
  split at h
  · next hk =>
    rw [Bool.and_eq_true, decide_eq_true_eq, eqS_iff] at hk
    exact ⟨hk.1, hk.2, Option.some.inj h⟩
  · cases h
theorem aTx_eq (key : ByteArray) (t : TX) : ∀ j, aTx key t j = (t.ops.take j).filterMap (pickA key)
  | 0 => rfl
  | j + 1 => by
    show aTx key t j ++ _ = _
    rw [aTx_eq key t j, List.take_add_one, List.filterMap_append]
    congr 1
    cases h : t.ops[j]? with
    | none => rfl
    | some o =>
      show (if _ then _ else _) = List.filterMap (pickA key) [o]
      unfold pickA
      by_cases q : (decide (o.kind = 4) && eqS o.key key) = true
      · rw [if_pos q]
        simp only [List.filterMap_cons, List.filterMap_nil]
        rw [if_pos q]
      · rw [if_neg q]
        simp only [List.filterMap_cons, List.filterMap_nil]
        rw [if_neg q]
theorem aLog_eq (key : ByteArray) (l : LG) (i : Nat) : ∀ d, aLog key l i d = (((l i).take d).flatMap (·.ops)).filterMap (pickA key)
  | 0 => rfl
  | d + 1 => by
    show aLog key l i d ++ _ = _
    rw [aLog_eq key l i d, List.take_add_one, List.flatMap_append, List.filterMap_append]
    congr 1
    cases h : (l i)[d]? with
    | none => rfl
    | some t =>
      show aTx key t t.ops.length = _
      rw [aTx_eq, List.take_length]
      simp only [Option.toList_some, List.flatMap_cons, List.flatMap_nil, List.append_nil]
theorem aLog_mem {key x : ByteArray} {l : LG} {i d : Nat} (h : x ∈ aLog key l i d) : ∃ t ∈ l i, ∃ o ∈ t.ops, o.kind = 4 ∧ o.key = key ∧ o.elem = x := by
  rw [aLog_eq] at h
  obtain ⟨o, ho, hp⟩ := List.mem_filterMap.1 h
  obtain ⟨t, ht, hot⟩ := List.mem_flatMap.1 ho
  exact ⟨t, List.mem_of_mem_take ht, o, hot, pickA_some hp⟩
/-- What a member's log may not have: an Add that the same operation stands ahead of. -/
def NoTwo (O : List TO) : Prop := O.Pairwise fun a b => ¬ (b.kind = 4 ∧ a = b)
theorem aLog_nodup {key : ByteArray} {L : List RU} {l : LG} {i d : Nat} (hf : ∀ t ∈ l i, formC L (i : Int) t.ops = 0) (hd : NoTwo ((l i).flatMap (·.ops))) : (aLog key l i d).Nodup := by
  rw [aLog_eq]
  have esub : (l i).flatMap (·.ops) = ((l i).take d).flatMap (·.ops) ++ ((l i).drop d).flatMap (·.ops) := by rw [← List.flatMap_append, List.take_append_drop]
  have hsub : (((l i).take d).flatMap (·.ops)).Sublist ((l i).flatMap (·.ops)) := by rw [esub]; exact List.sublist_append_left _ _
  have hd2 := List.Pairwise.sublist hsub hd
  unfold List.Nodup
  rw [List.pairwise_filterMap]
  refine hd2.imp_of_mem fun {a b} ha hb hab x hx y hy e => ?_
  subst e
  obtain ⟨a1, a2, a3⟩ := pickA_some hx
  obtain ⟨b1, b2, b3⟩ := pickA_some hy
  refine hab ⟨b1, ?_⟩
  have hn : ∀ o, o ∈ ((l i).take d).flatMap (·.ops) → o.kind = 4 → o.n = 0 := fun o ho hk => by
    obtain ⟨t, ht, hot⟩ := List.mem_flatMap.1 ho
    exact okOp_n (okOp_of (form_ok (hf t (List.mem_of_mem_take ht))).2.1 o hot) (.inl hk)
  have ea := hn a ha a1
  have eb := hn b hb b1
  obtain ⟨ka, sa, ta, na⟩ := a
  obtain ⟨kb, sb, tb, nb⟩ := b
  simp only at a1 a2 a3 b1 b2 b3 ea eb
  rw [a1, a2, a3, b1, b2, b3, ea, eb]
theorem once_all {L : List RU} {l : LG} {c : Nat → Nat} {key : ByteArray} (h8 : (ruleR L key).k = 8) (hf : ∀ i, i < 8 → ∀ t ∈ l i, formC L (i : Int) t.ops = 0) (hd : ∀ i, i < 8 → NoTwo ((l i).flatMap (·.ops))) : onceB key l c = true := by
  have own : ∀ i d x, i < 8 → x ∈ aLog key l i d → ownB (i : Int) x = true := fun i d x hi hx => by
    obtain ⟨t, ht, o, ho, hk, hkey, he⟩ := aLog_mem hx
    have := form_own (hf i hi t ht) ho hk (by rw [hkey]; exact h8)
    rwa [he] at this
  have main : ∀ i, i ≤ 8 → (aAll key l c i).Nodup ∧ ∀ x ∈ aAll key l c i, ∃ q : Nat, q < i ∧ ownB (q : Int) x = true := by
    intro i
    induction i with
    | zero => exact fun _ => ⟨List.nodup_nil, fun x hx => by cases hx⟩
    | succ i ih =>
      intro hi
      obtain ⟨h1, h2⟩ := ih (by omega)
      refine ⟨List.nodup_append.2 ⟨h1, aLog_nodup (hf i (by omega)) (hd i (by omega)), fun a ha b hb e => ?_⟩, fun x hx => ?_⟩
      · subst e
        obtain ⟨q, hq, ho⟩ := h2 a ha
        have := own_uniq ho (own i _ a (by omega) hb)
        omega
      · rcases List.mem_append.1 hx with hx | hx
        · obtain ⟨q, hq, ho⟩ := h2 x hx
          exact ⟨q, by omega, ho⟩
        · exact ⟨i, by omega, own i _ x (by omega) hx⟩
  exact once_yes (main 8 (Nat.le_refl _)).1
/-- Keys of the kinds 1 to 8 stand once. -/
theorem keys_pair {L : List RU} (h : checkC L = 0) : L.Pairwise fun a b => knB a.k = true → knB b.k = true → a.key ≠ b.key := by
  rw [List.pairwise_iff_getElem]
  intro i j hi hj hij ha hb e
  obtain ⟨-, -, h3⟩ := may_iff.1 (checkC_at h j hj)
  have hb' : 1 ≤ L[j].k ∧ L[j].k ≤ 8 := by unfold knB at hb; simpa using hb
  rcases h3 with ⟨k9, _⟩ | ⟨k10, _⟩ | ⟨-, -, hf, _⟩
  · omega
  · omega
  · unfold fInt at hf
    cases q : fIdx L L[j].key with
    | none => rw [q] at hf; simp only at hf; omega
    | some p =>
      rw [q] at hf
      simp only at hf
      have hpj : p = j := by omega
      subst hpj
      obtain ⟨_, _, hq⟩ := fIdx_some.1 q
      have := hq i hi hij
      unfold isF at this
      rw [ha, e, eqS_iff.2 rfl] at this
      cases this
theorem fInt_pair {L : List RU} (h : L.Pairwise fun a b => knB a.k = true → knB b.k = true → a.key ≠ b.key) {j : Nat} (hj : j < L.length) (hk : knB L[j].k = true) : fInt L L[j].key = (j : Int) := by
  refine fInt_some (fIdx_some.2 ⟨hj, by unfold isF; rw [hk, eqS_iff.2 rfl]; rfl, fun q hq hqj => ?_⟩)
  rw [Bool.eq_false_iff]
  intro hc
  unfold isF at hc
  rw [Bool.and_eq_true, eqS_iff] at hc
  exact List.pairwise_iff_getElem.1 h q j hq hj hqj hc.1 hk hc.2
/-- The rules for identifiers alone. -/
def idsOf (L : List RU) : List RU := L.filter fun r => decide (r.k = 8)
theorem idsOf_take {L : List RU} {j : Nat} (hj : j < L.length) : idsOf (L.take (j + 1)) = if L[j].k = 8 then idsOf (L.take j) ++ [L[j]] else idsOf (L.take j) := by
  unfold idsOf
  rw [List.take_add_one, List.getElem?_eq_getElem hj, List.filter_append]
  by_cases h : L[j].k = 8
  · rw [if_pos h]; simp [h]
  · rw [if_neg h]; simp [h]
theorem idsOf_len (L : List RU) : (idsOf L).length ≤ L.length := List.length_filter_le _ _
theorem check_ids {L : List RU} (h : checkC L = 0) : checkC (idsOf L) = 0 := by
  refine checkC_of (Nat.le_trans (idsOf_len L) (checkC_len h)) fun i hi => ?_
  have hm : (idsOf L)[i] ∈ L ∧ (idsOf L)[i].k = 8 := by
    have := List.mem_filter.1 (List.getElem_mem hi)
    exact ⟨this.1, by simpa using this.2⟩
  obtain ⟨p, hp, e⟩ := List.mem_iff_getElem.1 hm.1
  obtain ⟨m1, m2, m3⟩ := may_iff.1 (checkC_at h p hp)
  rw [e] at m1 m2 m3
  rcases m3 with ⟨k9, _⟩ | ⟨k10, _⟩ | ⟨k8, ho, -, hmin, hst, hb⟩
  · omega
  · omega
  · refine may_iff.2 ⟨m1, m2, .inr (.inr ⟨k8, ho, ?_, hmin, hst, hb⟩)⟩
    have hp2 : (idsOf L).Pairwise fun a b => knB a.k = true → knB b.k = true → a.key ≠ b.key := (keys_pair h).filter _
    exact fInt_pair hp2 hi (by unfold knB; rw [hm.2]; rfl)
theorem ids_hold {L : List RU} {l : LG} {c : Nat → Nat} (h : checkC L = 0) (hf : ∀ i, i < 8 → ∀ t ∈ l i, formC L (i : Int) t.ops = 0) (hd : ∀ i, i < 8 → NoTwo ((l i).flatMap (·.ops))) (hl : checkE l = 0) (hc : closedB l c = true) :
    holdsE (idsOf L) l c = 0 ∧ holdsB (idsOf L) l c = true := by
  obtain ⟨h1, h2⟩ := holds_e4 (check_ids h) hl hc
  refine ⟨h1, ?_⟩
  rw [h2]
  refine List.all_eq_true.2 fun r hr => ?_
  have hm : r ∈ L ∧ r.k = 8 := by
    have := List.mem_filter.1 hr
    exact ⟨this.1, by simpa using this.2⟩
  obtain ⟨p, hp, e⟩ := List.mem_iff_getElem.1 hm.1
  subst e
  obtain ⟨-, -, m3⟩ := may_iff.1 (checkC_at h p hp)
  unfold holdB
  rw [if_neg (by omega), if_pos hm.2]
  refine once_all (L := L) ?_ hf hd
  rcases m3 with ⟨k9, _⟩ | ⟨k10, _⟩ | ⟨-, -, hfi, _⟩
  · omega
  · omega
  · rw [rule_self hp hfi]; exact hm.2
theorem wpList_push_opsT {W w0 : World} {ops : Array Oper} {rest : List Oper} {o : Oper} {a : Act} {Q : Exit → Act → World → Prop} (hw : Region.wanted o (yielded ops a.tmps) = true) (s x : Operand)
    (ho : o.op = .call { callee := .builtin .append, args := #[s, x], argTypes := #[45, 45] })
    (v vx : Value) (L M : List TO) (n m : Nat) (hn : n = L.length) (hm : m = M.length) (hs : a.eval s = v) (hown : TOO W w0.heap.size v L) (hx : a.eval x = vx) (hxv : TOV W vx M) (hlen : (n + m) * 48 ≤ 140737488355328) (hg : Gr w0 W)
    (h : ∀ A' c' w', TOO w' w0.heap.size (.slice A' (n + m) c') (L ++ M) → Gr w0 w' → W.grownBy w' v.ownBlock → wpList Tryz.prog ops Q rest (a.put o.dst (.slice A' (n + m) c')) w') :
    wpList Tryz.prog ops Q (o :: rest) a W :=
  Go.BigFrame.wpList_want hw fun _ hK => wp_push_ops s x ho v vx L M n m hn hm hs hown hx hxv hlen hg fun A' c' w' h1 h2 h3 => hK _ _ (h A' c' w' h1 h2 h3)
theorem tov_oneT {w : World} {b : Nat} {o : TO} (h : w.heap[b]? = some (.cells (opv o) 52 (0, 0))) : TOV w (.slice (some ⟨b, 0, none⟩) 1 1) [o] := by
  refine ⟨_, 1, rfl, Nat.le_refl _, ⟨by decide, fun h => by cases h⟩, fun j hj => ⟨b, 0, rfl, ?_⟩⟩
  have hj0 : j = 0 := by simpa using hj
  subst hj0
  unfold TCell
  refine ⟨?_, ?_, ?_, ?_⟩ <;> (rw [cell_of_block h]; rfl)
theorem noTwo_snoc {O : List TO} {o : TO} (h : NoTwo O) (hk : ∀ q (hq : q < O.length), ¬ (o.kind = 4 ∧ O[q] = o)) : NoTwo (O ++ [o]) := by
  unfold NoTwo
  rw [List.pairwise_append]
  refine ⟨h, List.pairwise_singleton _ _, fun a ha b hb => ?_⟩
  rw [List.mem_singleton] at hb
  subst hb
  obtain ⟨q, hq, rfl⟩ := List.mem_iff_getElem.1 ha
  exact hk q hq
theorem wrap_succT {h m : Nat} (hh : h < m) (hm : m ≤ 16384) : wrap64 ((h : Int) + 1) = ((h + 1 : Nat) : Int) := by unfold wrap64; omega
theorem key_leI {L : List RU} (h : ∀ r ∈ L, r.key.size ≤ 9223372036854775807) : ∀ r ∈ idsOf L, r.key.size ≤ 9223372036854775807 := fun r hr => h r (List.mem_filter.1 hr).1
theorem opsCount {l : LG} (h : OkL l) {i : Nat} (hi : i < 8) : ∀ d, (((l i).take d).flatMap (·.ops)).length ≤ d * 8
  | 0 => Nat.le_refl _
  | d + 1 => by
    have ih := opsCount h hi d
    rw [List.take_add_one, List.flatMap_append, List.length_append]
    cases e : (l i)[d]? with
    | none => simp only [Option.toList_none, List.flatMap_nil, List.length_nil]; omega
    | some t =>
      have := (h.tx i d t hi e).1.2.2.1
      simp only [Option.toList_some, List.flatMap_cons, List.flatMap_nil, List.append_nil]
      omega
set_option maxRecDepth 100000 in
set_option maxHeartbeats 8000000 in
theorem once_law (v : Value) (L : List RU) (u : Nat → S3) (l : LG) (cv : Nat → Nat) (w : World) (hv : UV w v L) (hl : LV w u l) (hf : FitL l) (hks : ∀ r ∈ L, r.key.size ≤ 9223372036854775807) (hln : (L.length + 1) * 56 ≤ 140737488355328) (hp : Laid w) :
    Calls Tryz.prog 6 #[v, .agg (lcells u), .agg (vcells cv)] w fun e w' => e = .returned (.bool true) ∧ Gr w w' := by
  have HA2 := Lib.hid (fun w1 (g : Gr w w1) => awake14_any w1 (hp.gr g))
  have HC := Lib.hid (fun w1 (g : Gr w w1) => copied14_any v L hln w1 (hv.gr g))
  have HF := Lib.hid (fun v2 vo2 w1 (g : Gr w w1) (h2 : UV w1 v2 L) m ops (hos : ∀ o ∈ ops, o.key.size ≤ 9223372036854775807 ∧ o.elem.size ≤ 281474976710656) (h3 : TOV w1 vo2 ops) => form_any v2 vo2 L m ops hks hos w1 h2 h3 (hp.gr g))
  have HCK := Lib.hid (fun w1 (g : Gr w w1) => rcheck14_any v L hks w1 (hv.gr g))
  have HC9 := Lib.hid (fun w1 (g : Gr w w1) => rcheck9_any u l w1 (hl.gr g) hf.q)
  have HCP := Lib.hid (fun w1 (g : Gr w w1) => rcopy9_any u l w1 (hl.gr g) hf.c)
  have HCL := Lib.hid (fun w1 (g : Gr w w1) => rclose_any u l cv w1 (hl.gr g))
  have HOF := Lib.hid (fun i (hi : i < 8) t (ht : t ∈ l i) => op_le hf hi ht)
  have HFL := Lib.hid hf
  have HLV := Lib.hid hl
  have HV := Lib.hid hv
  have HKS := Lib.hid hks
  have HP := Lib.hid hp
  have HLN := Lib.hid hln
  obtain ⟨W, hW, hg, hsz, hL, hV⟩ := boxesLV u cv w
  have HL := Lib.hid hL
  have HVB := Lib.hid hV
  have HG := Lib.hid hg
  obtain ⟨A, c0, rfl, l1, ⟨l2, _⟩, l3⟩ := hv
  have l2' : c0 ≤ 9223372036854775807 := l2
  have HAT := Lib.hid l3
  obtain ⟨N, hN⟩ : ∃ N, N = L.length := ⟨_, rfl⟩
  have HN := Lib.hid hN
  rw [← hN] at HC HCK HV l1 ⊢
  rw [checkD_C] at HCK
  clear hL hV hg hsz hl hf hks hp hln hN l2 l3
  obtain ⟨ce, hce⟩ : ∃ x, x = checkC L := ⟨_, rfl⟩
  rw [← hce] at HCK
  have HCE := Lib.hid hce
  obtain ⟨c9, hc9⟩ : ∃ x, x = checkE l := ⟨_, rfl⟩
  rw [← hc9] at HC9
  have HCE9 := Lib.hid hc9
  clear hce hc9
  go_enter Tryz.func6, Tryz.ntmps6
  go_upto_region 1 with (fail)
  rw [← hW]
  clear hW
  go_wp2_with fail
  refine (HA2.out _ HG.out).mono ?_
  rintro e w1 ⟨rfl, g⟩
  have HG1 := Lib.hid g
  clear g
  by_cases hce0 : ce = 0
  case neg =>
    have t1 : (ce != 0) = true := by simpa using hce0
    go_wp2_with fail
    refine (HCK.out _ (HG.out.trans HG1.out)).mono ?_
    rintro e w2 ⟨rfl, g⟩
    have HG2 := Lib.hid (HG1.out.trans g)
    clear g
    go_wp2_with fail
    go_ret
    exact ⟨rfl, HG.out.trans HG2.out⟩
  subst hce0
  go_wp2_with fail
  refine (HCK.out _ (HG.out.trans HG1.out)).mono ?_
  rintro e w2 ⟨rfl, g⟩
  have HG2 := Lib.hid (HG1.out.trans g)
  clear g
  obtain ⟨m0, m1, m2, m3, m4, m5, m6, m7⟩ := (HL.out.gr HG2.out).all
  by_cases hc90 : c9 = 0
  case neg =>
    have t1 : ((c9 : Int) != 0) = true := by
      have : ¬ (c9 : Int) = 0 := by omega
      simpa using this
    go_wp2_with fail
    refine (HC9.out _ (HG.out.trans HG2.out)).mono ?_
    rintro e wz ⟨rfl, g⟩
    have HG3 := Lib.hid (HG2.out.trans g)
    clear g m0 m1 m2 m3 m4 m5 m6 m7
    go_wp2_with fail
    go_ret
    exact ⟨rfl, HG.out.trans HG3.out⟩
  subst hc90
  go_wp2_with fail
  refine (HC9.out _ (HG.out.trans HG2.out)).mono ?_
  rintro e wz ⟨rfl, g⟩
  have HG3 := Lib.hid (HG2.out.trans g)
  have HOK := Lib.hid (okL_iff.1 HCE9.out.symm)
  clear g m0 m1 m2 m3 m4 m5 m6 m7
  go_wp2_with fail
  go_loopw [7] (fun i wr => ∃ k : Nat, k ≤ 8 ∧ i = .int .i64 k ∧ Hid (Gr W wr ∧ ∀ q, q < k → (∀ t ∈ l q, formC L (q : Int) t.ops = 0) ∧ NoTwo ((l q).flatMap (·.ops)))) (fun i _ => 8 - (intOf i).toNat)
  case atStart => exact ⟨0, by decide, rfl, Lib.hid ⟨HG3.out, fun q h => absurd h (Nat.not_lt_zero _)⟩⟩
  case round =>
    obtain ⟨k, hk, rfl, hst⟩ := hrel
    rename World => wo
    by_cases hlt : k < 8
    · have hk0 : (0 : Int) ≤ (k : Int) := Int.natCast_nonneg _
      have hk8 : (k : Int) < 8 := by omega
      have hC := HL.out.at hlt
      obtain ⟨Ak, ck, hxv, hnc, ⟨hcm, _⟩, hcell⟩ := HLV.out k hlt
      injection hxv with e1 e2 e3
      obtain ⟨A1, hA1⟩ : ∃ A, A = (u k).a := ⟨_, rfl⟩
      obtain ⟨n, hn⟩ : ∃ n, n = (u k).n := ⟨_, rfl⟩
      obtain ⟨c, hcc⟩ : ∃ c, c = (u k).c := ⟨_, rfl⟩
      rw [← hA1, ← hn, ← hcc] at hC
      have hnl : n = (l k).length := by rw [hn, e2]
      have hcc63 : c ≤ 9223372036854775807 := by rw [hcc, e3]; exact hcm
      have hnc1 : n ≤ c := by rw [hnl, hcc, e3]; exact hnc
      have hn1024 : n ≤ 1024 := by rw [hnl]; exact HOK.out.len k hlt
      have HA1 := Lib.hid hA1
      have HNL := Lib.hid hnl
      have HC03 := Lib.hid hC
      have HST := hst
      have HOC := Lib.hid (fun d => opsCount HOK.out hlt d)
      clear hA1 hn hcc hnl e1 e2 e3 hnc hcell hC hst hcm
      go_wp2_with fail
      go_loopw [8, 9] (fun s i wr => ∃ d : Nat, d ≤ n ∧ i = .int .i64 d ∧ Hid (TOO wr wo.heap.size s (((l k).take d).flatMap (·.ops)) ∧ NoTwo (((l k).take d).flatMap (·.ops)) ∧ Gr wo wr ∧ ∀ q (hq : q < (l k).length), q < d → formC L (k : Int) (l k)[q].ops = 0)) (fun _ i _ => n - (intOf i).toNat)
      case atStart => exact ⟨0, Nat.zero_le _, rfl, Lib.hid ⟨World.ownsRow_nil _ _ _ _, List.Pairwise.nil, Gr.refl _, fun q _ h => absurd h (Nat.not_lt_zero _)⟩⟩
      case round =>
        obtain ⟨d, hd, rfl, hst⟩ := hrel
        rename World => wi
        have HC0 := Lib.hid (hst.out.2.2.1.cell (HST.out.1.cell HC03.out))
        have c0' := HC0.out
        by_cases hdn : d < n
        · have hdl : d < (l k).length := by rw [← HNL.out]; exact hdn
          have hd0 : (0 : Int) ≤ (d : Int) := Int.natCast_nonneg _
          have hdn1 : (d : Int) < (n : Int) := by omega
          obtain ⟨bb, off, ha, hxc⟩ := HLV.out.cell hlt hdl
          rw [← HA1.out] at ha
          subst ha
          obtain ⟨t, ht⟩ : ∃ t, t = (l k)[d] := ⟨_, rfl⟩
          rw [← ht] at hxc
          have HTD := Lib.hid ht
          have HTM := Lib.hid (show t ∈ l k by rw [ht]; exact List.getElem_mem hdl)
          have HTQ : Hid ((l k)[d]? = some t) := Lib.hid (by rw [ht]; exact List.getElem?_eq_getElem hdl)
          obtain ⟨vx, hvx, x0, x1, x2, x3, x4, x5, x6, x7, x8, x9, x10, x11⟩ := hxc
          have HTV0 := Lib.hid hvx
          obtain ⟨Ax, cx, rfl, hxn, ⟨hxm, _⟩, hxat⟩ := hvx
          have hxm' : cx ≤ 9223372036854775807 := hxm
          have HXA := Lib.hid hxat
          obtain ⟨nx, hnx⟩ : ∃ n, n = t.ops.length := ⟨_, rfl⟩
          rw [← hnx] at x11 HTV0 hxn
          have HNX := Lib.hid hnx
          have HTV := HTV0
          have HNX8 : Hid (nx ≤ 8) := Lib.hid (by rw [hnx]; exact (HOK.out.tx k d t hlt HTQ.out).1.2.2.1)
          have HGZ := HG
          have HG := Lib.hid ((HGZ.out.trans HST.out.1).trans hst.out.2.2.1)
          have HGWO := Lib.hid (HGZ.out.trans HST.out.1)
          have HX11w := Lib.hid x11
          have HGI := Lib.hid (Gr.refl wi)
          have HX11 := Lib.hid (HG.out.cell x11)
          have HAL := hst
          obtain ⟨fc, hfc⟩ : ∃ x, x = formC L (k : Int) t.ops := ⟨_, rfl⟩
          have HZ := Lib.hid hfc
          have HFF : Hid (∀ v2 vo2 w1, Gr w w1 → UV w1 v2 L → TOV w1 vo2 t.ops → Calls Tryz.prog 24 #[v2, .int .i64 (k : Int), vo2] w1 fun e w' => e = .returned (.int .i64 fc) ∧ Gr w1 w') := Lib.hid (fun v2 vo2 w1 g h2 h3 => by rw [hfc]; exact HF.out v2 vo2 w1 g h2 (k : Int) t.ops (HOF.out k hlt t HTM.out).2 h3)
          clear x0 x1 x2 x3 x4 x5 x6 x7 x8 x9 x10 x11 hxat hnx hst ht hfc HTV0 hxm
          go_upto_region 12 with (fail)
          clear c0'
          go_cut [52] (fun s52 wx => s52 = .bool (fc != 0) ∧ Hid (Gr wi wx))
          case first =>
            as_aux_lemma =>
              refine wp_region_held_drew (S := fun w' => w'.cell? ⟨w.heap.size, k, none⟩ = some (.slice (some ⟨bb, off, none⟩) n c) ∧ w'.cell? ⟨bb, off + d * 12 + 11, none⟩ = some (.slice Ax nx cx)) (by kernel_rfl) ⟨(Gr.refl _).drew.cell HC0.out, (Gr.refl _).drew.cell HX11.out⟩ (fun hHeld => ?_)
              refine hTake (i := 0) rfl (by kernel_rfl) (by kernel_rfl) (by kernel_rfl) (by kernel_rfl) (by assumption) ?_
              apply Exists.intro
              refine ⟨fun _ _ _ h => h, fun wq hq => ?_, ?_⟩
              · go_light
                obtain ⟨q0, q11⟩ := hq
                go_simp
                try with_reducible rfl
                done
              try simp only [Act.put, List.setIfInBounds_toArray, List.set_cons_zero, List.set_cons_succ, List.getElem_toArray, List.getElem_cons_succ, List.getElem_cons_zero]
              refine hTake (i := 2) rfl (by kernel_rfl) (by kernel_rfl) (by kernel_rfl) (by kernel_rfl) (by assumption) ?_
              apply Exists.intro
              refine ⟨fun _ _ _ h => h, fun wq hq => ?_, ?_⟩
              · go_light
                obtain ⟨q0, q11⟩ := hq
                go_simp
                try with_reducible rfl
                done
              try simp only [Act.put, List.setIfInBounds_toArray, List.set_cons_zero, List.set_cons_succ, List.getElem_toArray, List.getElem_cons_succ, List.getElem_cons_zero]
              refine hTake (i := 4) rfl (by kernel_rfl) (by kernel_rfl) (by kernel_rfl) (by kernel_rfl) (by assumption) ?_
              apply Exists.intro
              refine ⟨fun _ _ _ h => h, fun wq hq => ?_, ?_⟩
              · go_light
                obtain ⟨q0, q11⟩ := hq
                go_simp
                try with_reducible rfl
                done
              try simp only [Act.put, List.setIfInBounds_toArray, List.set_cons_zero, List.set_cons_succ, List.getElem_toArray, List.getElem_cons_succ, List.getElem_cons_zero]
              refine hTake (i := 5) rfl (by kernel_rfl) (by kernel_rfl) (by kernel_rfl) (by kernel_rfl) (by assumption) ?_
              apply Exists.intro
              refine ⟨fun _ _ _ h => h, fun wq hq => ?_, ?_⟩
              · go_light
                obtain ⟨q0, q11⟩ := hq
                go_simp
                try with_reducible rfl
                done
              try simp only [Act.put, List.setIfInBounds_toArray, List.set_cons_zero, List.set_cons_succ, List.getElem_toArray, List.getElem_cons_succ, List.getElem_cons_zero]
              refine hTake (i := 6) rfl (by kernel_rfl) (by kernel_rfl) (by kernel_rfl) (by kernel_rfl) (by assumption) ?_
              apply Exists.intro
              refine ⟨fun _ _ _ h => h, fun wq hq => ?_, ?_⟩
              · go_light
                obtain ⟨q0, q11⟩ := hq
                go_simp
                try with_reducible rfl
                done
              try simp only [Act.put, List.setIfInBounds_toArray, List.set_cons_zero, List.set_cons_succ, List.getElem_toArray, List.getElem_cons_succ, List.getElem_cons_zero]
              refine hTake (i := 7) rfl (by kernel_rfl) (by kernel_rfl) (by kernel_rfl) (by kernel_rfl) (by assumption) ?_
              apply Exists.intro
              refine ⟨fun _ _ _ h => h, fun wq hq => ?_, ?_⟩
              · go_light
                obtain ⟨q0, q11⟩ := hq
                go_simp
                try with_reducible rfl
                done
              try simp only [Act.put, List.setIfInBounds_toArray, List.set_cons_zero, List.set_cons_succ, List.getElem_toArray, List.getElem_cons_succ, List.getElem_cons_zero]
              refine hTake (i := 8) rfl (by kernel_rfl) (by kernel_rfl) (by kernel_rfl) (by kernel_rfl) (by assumption) ?_
              apply Exists.intro
              refine ⟨fun _ _ _ h => h, fun wq hq => ?_, ?_⟩
              · exact exec_index12 _ _ (.tmp 45) (.tmp 46) rfl bb off n c d rfl rfl hdn wq
              try simp only [Act.put, List.setIfInBounds_toArray, List.set_cons_zero, List.set_cons_succ, List.getElem_toArray, List.getElem_cons_succ, List.getElem_cons_zero]
              refine hTake (i := 9) rfl (by kernel_rfl) (by kernel_rfl) (by kernel_rfl) (by kernel_rfl) (by assumption) ?_
              apply Exists.intro
              refine ⟨fun _ _ _ h => h, fun wq hq => ?_, ?_⟩
              · go_light
                obtain ⟨q0, q11⟩ := hq
                go_simp
                try with_reducible rfl
                done
              try simp only [Act.put, List.setIfInBounds_toArray, List.set_cons_zero, List.set_cons_succ, List.getElem_toArray, List.getElem_cons_succ, List.getElem_cons_zero]
              refine hTake (i := 10) rfl (by kernel_rfl) (by kernel_rfl) (by kernel_rfl) (by kernel_rfl) (by assumption) ?_
              apply Exists.intro
              refine ⟨fun _ _ _ h => h, fun wq hq => ?_, ?_⟩
              · go_light
                obtain ⟨q0, q11⟩ := hq
                go_simp
                try with_reducible rfl
                done
              try simp only [Act.put, List.setIfInBounds_toArray, List.set_cons_zero, List.set_cons_succ, List.getElem_toArray, List.getElem_cons_succ, List.getElem_cons_zero]
              have hg3d : Gr wi wi.drew := (Gr.refl _).drew
              generalize wi.drew = W3 at *
              have HGD := Lib.hid (HGI.out.trans hg3d)
              have HSD := Lib.hid hHeld
              clear hg3d hHeld
              refine wpAnyH_ready (rs := [1, 3]) (by kernel_rfl) (by simp) ?_
              refine AllReadyH.cons rfl (fun K hK => ?_) (AllReadyH.cons rfl (fun K hK => ?_) AllReadyH.nil)
              case refine_1 =>
                go_simp
                go_at_call 16
                refine (HC.out _ (HG.out.trans HGD.out)).mono ?_
                rintro e w2 ⟨A2, c2, rfl, hu, g2⟩
                have HG2 := Lib.hid (HGD.out.trans g2)
                have HU2 := Lib.hid hu.uv
                have HS2 : Hid (w2.cell? ⟨w.heap.size, k, none⟩ = some (.slice (some ⟨bb, off, none⟩) n c) ∧ w2.cell? ⟨bb, off + d * 12 + 11, none⟩ = some (.slice Ax nx cx)) := Lib.hid ⟨g2.cell HSD.out.1, g2.cell HSD.out.2⟩
                clear hu g2
                go_wp2_with fail
                refine hK.out _ _ HS2.out (fun hHeld => ?_)
                clear hK K
                try simp only [Act.put, List.setIfInBounds_toArray, List.set_cons_zero, List.set_cons_succ, List.getElem_toArray, List.getElem_cons_succ, List.getElem_cons_zero]
                refine wpAnyH_ready (rs := [3]) (by kernel_rfl) (by simp) ?_
                refine AllReadyH.cons rfl (fun K hK => ?_) AllReadyH.nil
                go_simp
                obtain ⟨w2b, hw2b, hg2b⟩ : ∃ X, X = w2.alloc (.cells #[] 52) ∧ Gr w2 X := ⟨_, rfl, (Gr.refl _).alloc _⟩
                have HS2b : Hid (w2b.cell? ⟨w.heap.size, k, none⟩ = some (.slice (some ⟨bb, off, none⟩) n c) ∧ w2b.cell? ⟨bb, off + d * 12 + 11, none⟩ = some (.slice Ax nx cx)) := Lib.hid ⟨hg2b.cell HS2.out.1, hg2b.cell HS2.out.2⟩
                have HO2b : Hid (TOO w2b w2.heap.size (.slice (some ⟨w2.heap.size, 0, none⟩) 0 0) []) := Lib.hid (by rw [hw2b]; exact own_emptyT w2)
                have HG2b := Lib.hid hg2b
                rw [← hw2b]
                clear hw2b hg2b hHeld
                refine hK.out _ _ HS2b.out (fun hHeld => ?_)
                clear hK K
                try simp only [Act.put, List.setIfInBounds_toArray, List.set_cons_zero, List.set_cons_succ, List.getElem_toArray, List.getElem_cons_succ, List.getElem_cons_zero]
                refine wpAnyH_ready (rs := [11]) (by kernel_rfl) (by simp) ?_
                refine AllReadyH.cons rfl (fun K hK => ?_) AllReadyH.nil
                refine wp_push_ops (w0 := w2) (.tmp 42) (.tmp 49) rfl (.slice (some ⟨w2.heap.size, 0, none⟩) 0 0) (.slice Ax nx cx) [] t.ops 0 nx rfl HNX.out rfl HO2b.out rfl (HTV.out.gr ((HG.out.trans HG2.out).trans HG2b.out)) (by have := (HOF.out k hlt t HTM.out).1; have := HNX.out; omega) HG2b.out ?_
                intro A3 c3 w3 hown3 hg3 hgrow3
                have HG3 := Lib.hid (HG2.out.trans hg3)
                have HU3 := Lib.hid (HU2.out.gr hg3)
                have HT3 : Hid (TOV w3 (.slice A3 nx c3) t.ops) := Lib.hid (by have h := TOO.tov hown3; rw [Nat.zero_add] at h; exact h)
                have HS3 : Hid (w3.cell? ⟨w.heap.size, k, none⟩ = some (.slice (some ⟨bb, off, none⟩) n c) ∧ w3.cell? ⟨bb, off + d * 12 + 11, none⟩ = some (.slice Ax nx cx)) := Lib.hid ⟨hg3.cell HS2.out.1, hg3.cell HS2.out.2⟩
                clear hown3 hg3 hgrow3 hHeld
                refine hK.out _ _ HS3.out (fun hHeld => ?_)
                clear hK K
                try simp only [Act.put, List.setIfInBounds_toArray, List.set_cons_zero, List.set_cons_succ, List.getElem_toArray, List.getElem_cons_succ, List.getElem_cons_zero]
                refine wpAnyH_ready (rs := [12]) (by kernel_rfl) (by simp) ?_
                refine AllReadyH.cons rfl (fun K hK => ?_) AllReadyH.nil
                go_simp
                go_at_call 24
                refine (HFF.out _ _ _ (HG.out.trans HG3.out) HU3.out HT3.out).mono ?_
                rintro e w4 ⟨rfl, g4⟩
                have HS4 : Hid (w4.cell? ⟨w.heap.size, k, none⟩ = some (.slice (some ⟨bb, off, none⟩) n c) ∧ w4.cell? ⟨bb, off + d * 12 + 11, none⟩ = some (.slice Ax nx cx)) := Lib.hid ⟨g4.cell HS3.out.1, g4.cell HS3.out.2⟩
                have HG4 := Lib.hid (HG3.out.trans g4)
                clear g4 hHeld
                go_wp2_with fail
                refine hK.out _ _ HS4.out (fun hHeld => ?_)
                clear hK K
                try simp only [Act.put, List.setIfInBounds_toArray, List.set_cons_zero, List.set_cons_succ, List.getElem_toArray, List.getElem_cons_succ, List.getElem_cons_zero]
                refine wpAnyH_ready (rs := [13]) (by kernel_rfl) (by simp) ?_
                refine AllReadyH.cons rfl (fun K hK => ?_) AllReadyH.nil
                go_simp
                refine hK.out _ _ HS4.out (fun hHeld => ?_)
                clear hK K
                try simp only [Act.put, List.setIfInBounds_toArray, List.set_cons_zero, List.set_cons_succ, List.getElem_toArray, List.getElem_cons_succ, List.getElem_cons_zero]
                refine wpAnyH_done (by kernel_rfl) ?_ _
                go_wp2_with fail
                go_meet
                exact ⟨rfl, Lib.hid HG4.out⟩
              case refine_2 =>
                go_simp
                obtain ⟨w2, hw2, hg2, hs2⟩ : ∃ X, X = W3.alloc (.cells #[] 52) ∧ Gr W3 X ∧ W3.heap.size < X.heap.size := ⟨_, rfl, (Gr.refl _).alloc _, by simp⟩
                have HS2 : Hid (w2.cell? ⟨w.heap.size, k, none⟩ = some (.slice (some ⟨bb, off, none⟩) n c) ∧ w2.cell? ⟨bb, off + d * 12 + 11, none⟩ = some (.slice Ax nx cx)) := Lib.hid ⟨hg2.cell HSD.out.1, hg2.cell HSD.out.2⟩
                have HO2 : Hid (TOO w2 W3.heap.size (.slice (some ⟨W3.heap.size, 0, none⟩) 0 0) []) := Lib.hid (by rw [hw2]; exact own_emptyT W3)
                have HG2 := Lib.hid hg2
                have HZ2 := Lib.hid hs2
                rw [← hw2]
                clear hw2 hg2 hs2
                refine hK.out _ _ HS2.out (fun hHeld => ?_)
                clear hK K
                try simp only [Act.put, List.setIfInBounds_toArray, List.set_cons_zero, List.set_cons_succ, List.getElem_toArray, List.getElem_cons_succ, List.getElem_cons_zero]
                refine wpAnyH_ready (rs := [1]) (by kernel_rfl) (by simp) ?_
                refine AllReadyH.cons rfl (fun K hK => ?_) AllReadyH.nil
                go_simp
                go_at_call 16
                refine (HC.out _ ((HG.out.trans HGD.out).trans HG2.out)).mono ?_
                rintro e w2b ⟨A2, c2, rfl, hu, g2⟩
                have HG2b := Lib.hid (HG2.out.trans g2)
                have HU2 := Lib.hid hu
                have HO2b := Lib.hid (HO2.out.gr g2)
                have HS2b : Hid (w2b.cell? ⟨w.heap.size, k, none⟩ = some (.slice (some ⟨bb, off, none⟩) n c) ∧ w2b.cell? ⟨bb, off + d * 12 + 11, none⟩ = some (.slice Ax nx cx)) := Lib.hid ⟨g2.cell HS2.out.1, g2.cell HS2.out.2⟩
                clear hu g2 hHeld
                go_wp2_with fail
                refine hK.out _ _ HS2b.out (fun hHeld => ?_)
                clear hK K
                try simp only [Act.put, List.setIfInBounds_toArray, List.set_cons_zero, List.set_cons_succ, List.getElem_toArray, List.getElem_cons_succ, List.getElem_cons_zero]
                refine wpAnyH_ready (rs := [11]) (by kernel_rfl) (by simp) ?_
                refine AllReadyH.cons rfl (fun K hK => ?_) AllReadyH.nil
                refine wp_push_ops (w0 := W3) (.tmp 42) (.tmp 49) rfl (.slice (some ⟨W3.heap.size, 0, none⟩) 0 0) (.slice Ax nx cx) [] t.ops 0 nx rfl HNX.out rfl HO2b.out rfl (HTV.out.gr ((HG.out.trans HGD.out).trans HG2b.out)) (by have := (HOF.out k hlt t HTM.out).1; have := HNX.out; omega) HG2b.out ?_
                intro A3 c3 w3 hown3 hg3 hgrow3
                have HG3 := Lib.hid (HGD.out.trans hg3)
                have HU3 : Hid (UV w3 (.slice A2 N c2) L) := Lib.hid (UO.uv (B := w2.heap.size) (World.ownsRow.kept HU2.out hgrow3 (.inr fun e => own_far HU2.out HZ2.out e.symm)))
                have HT3 : Hid (TOV w3 (.slice A3 nx c3) t.ops) := Lib.hid (by have h := TOO.tov hown3; rw [Nat.zero_add] at h; exact h)
                have HS3 : Hid (w3.cell? ⟨w.heap.size, k, none⟩ = some (.slice (some ⟨bb, off, none⟩) n c) ∧ w3.cell? ⟨bb, off + d * 12 + 11, none⟩ = some (.slice Ax nx cx)) := Lib.hid ⟨hg3.cell HSD.out.1, hg3.cell HSD.out.2⟩
                clear hown3 hg3 hgrow3 hHeld
                refine hK.out _ _ HS3.out (fun hHeld => ?_)
                clear hK K
                try simp only [Act.put, List.setIfInBounds_toArray, List.set_cons_zero, List.set_cons_succ, List.getElem_toArray, List.getElem_cons_succ, List.getElem_cons_zero]
                refine wpAnyH_ready (rs := [12]) (by kernel_rfl) (by simp) ?_
                refine AllReadyH.cons rfl (fun K hK => ?_) AllReadyH.nil
                go_simp
                go_at_call 24
                refine (HFF.out _ _ _ (HG.out.trans HG3.out) HU3.out HT3.out).mono ?_
                rintro e w4 ⟨rfl, g4⟩
                have HS4 : Hid (w4.cell? ⟨w.heap.size, k, none⟩ = some (.slice (some ⟨bb, off, none⟩) n c) ∧ w4.cell? ⟨bb, off + d * 12 + 11, none⟩ = some (.slice Ax nx cx)) := Lib.hid ⟨g4.cell HS3.out.1, g4.cell HS3.out.2⟩
                have HG4 := Lib.hid (HG3.out.trans g4)
                clear g4 hHeld
                go_wp2_with fail
                refine hK.out _ _ HS4.out (fun hHeld => ?_)
                clear hK K
                try simp only [Act.put, List.setIfInBounds_toArray, List.set_cons_zero, List.set_cons_succ, List.getElem_toArray, List.getElem_cons_succ, List.getElem_cons_zero]
                refine wpAnyH_ready (rs := [13]) (by kernel_rfl) (by simp) ?_
                refine AllReadyH.cons rfl (fun K hK => ?_) AllReadyH.nil
                go_simp
                refine hK.out _ _ HS4.out (fun hHeld => ?_)
                clear hK K
                try simp only [Act.put, List.setIfInBounds_toArray, List.set_cons_zero, List.set_cons_succ, List.getElem_toArray, List.getElem_cons_succ, List.getElem_cons_zero]
                refine wpAnyH_done (by kernel_rfl) ?_ _
                go_wp2_with fail
                go_meet
                exact ⟨rfl, Lib.hid HG4.out⟩
          case rest =>
            obtain ⟨rfl, hcc⟩ := hcut
            rename World => wc
            have HGC := Lib.hid hcc.out
            clear hcc
            by_cases hf0 : fc = 0
            · subst hf0
              obtain ⟨PRE, hPRE⟩ : ∃ X, X = ((l k).take d).flatMap (·.ops) := ⟨_, rfl⟩
              have HPRE := Lib.hid hPRE
              have HPL : Hid (PRE.length ≤ d * 8) := Lib.hid (by rw [hPRE]; exact HOC.out d)
              have HT0 : Hid (TOO wc wo.heap.size u8 PRE ∧ NoTwo PRE) := Lib.hid (by rw [hPRE]; exact ⟨HAL.out.1.gr HGC.out, HAL.out.2.1⟩)
              clear hPRE
              have HGO3 : Hid (Gr wo wc) := Lib.hid (HAL.out.2.2.1.trans HGC.out)
              have c0' := HGC.out.cell HC0.out
              have x11 := HGC.out.cell HX11.out
              go_wp2_with fail
              clear c0' x11
              go_loopw [8, 10] (fun s i wr => ∃ j : Nat, j ≤ nx ∧ i = .int .i64 j ∧ Hid (TOO wr wo.heap.size s (PRE ++ t.ops.take j) ∧ NoTwo (PRE ++ t.ops.take j) ∧ Gr wo wr)) (fun _ i _ => nx - (intOf i).toNat)
              case atStart => exact ⟨0, Nat.zero_le _, rfl, Lib.hid ⟨by rw [List.take_zero, List.append_nil]; exact HT0.out.1, by rw [List.take_zero, List.append_nil]; exact HT0.out.2, HGO3.out⟩⟩
              case round =>
                obtain ⟨j, hj, rfl, hst⟩ := hrel
                rename World => wr
                have c0' := hst.out.2.2.cell (HST.out.1.cell HC03.out)
                have x11 := (HGWO.out.trans hst.out.2.2).cell HX11w.out
                by_cases hjn : j < nx
                · have hjl : j < t.ops.length := by rw [← HNX.out]; exact hjn
                  have hj0 : (0 : Int) ≤ (j : Int) := Int.natCast_nonneg _
                  have hj1 : (j : Int) < (nx : Int) := by omega
                  obtain ⟨bo, oo, rfl, hoc⟩ := HXA.out j hjl
                  obtain ⟨o, ho⟩ : ∃ o, o = t.ops[j] := ⟨_, rfl⟩
                  rw [← ho] at hoc
                  obtain ⟨o0, o1, o2, o3⟩ := hoc.gr (HGWO.out.trans hst.out.2.2)
                  obtain ⟨W5, hW5, hg5, hx5⟩ := opbox wr o
                  obtain ⟨Q, hQ⟩ : ∃ X, X = PRE ++ t.ops.take j := ⟨_, rfl⟩
                  have HNQ : Hid (PRE ++ t.ops.take (j + 1) = Q ++ [o]) := Lib.hid (by rw [hQ, List.append_assoc, List.take_succ_eq_append_getElem hjl, ho])
                  have HQL : Hid (Q.length ≤ 16384) := Lib.hid (by
                    have h1 := HPL.out
                    have h2 := HNX8.out
                    rw [hQ, List.length_append, List.length_take]
                    omega)
                  rw [← hQ] at hst
                  obtain ⟨A2, c2, hs2⟩ := tov_form hst.out.1.tov
                  subst hs2
                  obtain ⟨m, hm⟩ : ∃ m, m = Q.length := ⟨_, rfl⟩
                  rw [← hm]
                  rw [← hm] at hst
                  have HM := Lib.hid hm
                  have hm1 : m ≤ 16384 := by rw [hm]; exact HQL.out
                  have HS5 : Hid (TOO W5 wo.heap.size (.slice A2 m c2) Q ∧ NoTwo Q ∧ Gr wo W5) := Lib.hid ⟨hst.out.1.gr hg5, hst.out.2.1, hst.out.2.2.trans hg5⟩
                  have HX5 := Lib.hid hx5
                  clear ho hoc hQ hst hx5 hm
                  obtain ⟨ok, oky, oe, on⟩ := o
                  go_upto_region 18 with (fail)
                  change Code.wp Tryz.prog _ _ _ (wr.alloc (.cells (opv ⟨ok, oky, oe, on⟩) 52))
                  rw [← hW5]
                  clear hW5 o0 o1 o2 o3 c0' x11
                  go_wp2_with fail
                  go_loopw [12] (fun i wx => ∃ h : Nat, h ≤ m ∧ i = .int .i64 h ∧ Hid (Gr W5 wx ∧ ∀ q (hq : q < Q.length), q < h → ¬ (ok = 4 ∧ Q[q] = ⟨ok, oky, oe, on⟩))) (fun i _ => m - (intOf i).toNat)
                  case atStart => exact ⟨0, Nat.zero_le _, rfl, Lib.hid ⟨Gr.refl _, fun q _ h => absurd h (Nat.not_lt_zero _)⟩⟩
                  case round =>
                    obtain ⟨h, hh, rfl, hst⟩ := hrel
                    rename World => wx
                    obtain ⟨y0, y1, y2, y3⟩ := HX5.out.gr hst.out.1
                    by_cases hhm : h < m
                    · have hhQ : h < Q.length := by rw [← HM.out]; exact hhm
                      have hh0 : (0 : Int) ≤ (h : Int) := Int.natCast_nonneg _
                      have hh1 : (h : Int) < (m : Int) := by omega
                      obtain ⟨A3, c3, he3, q1, ⟨q2, _⟩, q3⟩ := (HS5.out.1.gr hst.out.1).tov
                      injection he3 with f1 f2 f3
                      subst f1 f3
                      have q2' : c2 ≤ 9223372036854775807 := q2
                      have q1' : m ≤ c2 := by rw [HM.out]; exact q1
                      obtain ⟨bq, oq, rfl, hqc⟩ := q3 h hhQ
                      obtain ⟨p, hp⟩ : ∃ p, p = Q[h] := ⟨_, rfl⟩
                      rw [← hp] at hqc
                      have HPQ := Lib.hid hp
                      have HXX := Lib.hid hst.out
                      clear hp q1 q2 q3 f2 hst
                      obtain ⟨pk, pky, pe, pn⟩ := p
                      obtain ⟨z0, z1, z2, z3⟩ := hqc
                      have he := fun w => equal_to ⟨pk, pky, pe, pn⟩ ⟨ok, oky, oe, on⟩ w
                      obtain ⟨eqb, heqb⟩ : ∃ b, b = eqTO ⟨pk, pky, pe, pn⟩ ⟨ok, oky, oe, on⟩ := ⟨_, rfl⟩
                      rw [← heqb] at he
                      unfold tovs at he
                      simp only at he
                      have HEB := Lib.hid heqb
                      have hw2 := wrap_succT hhm hm1
                      clear heqb
                      have hgo : ¬ (ok = 4 ∧ (⟨pk, pky, pe, pn⟩ : TO) = ⟨ok, oky, oe, on⟩) → ∀ w9, Gr wx w9 → Hid (Gr W5 w9 ∧ ∀ q (hq : q < Q.length), q < h + 1 → ¬ (ok = 4 ∧ Q[q] = ⟨ok, oky, oe, on⟩)) := fun hno w9 g9 => Lib.hid ⟨HXX.out.1.trans g9, fun q hq hqh => by
                        by_cases e : q = h
                        · subst e; rw [← HPQ.out]; exact hno
                        · exact HXX.out.2 q hq (Nat.lt_of_le_of_ne (Nat.le_of_lt_succ hqh) e)⟩
                      have HGO := Lib.hid hgo
                      clear hgo
                      by_cases hk4 : ok = 4
                      · subst hk4
                        have t1 : decide ((4 : Int) = 4) = true := rfl
                        rcases eqb with _ | _
                        · have HNO := Lib.hid (HGO.out (fun x => by
                            have := HEB.out
                            rw [x.2, eqTO_dec.2 ⟨rfl, rfl, rfl, rfl⟩] at this
                            cases this))
                          go_wp2_with fail
                          go_quiet (fail)
                          have HW2 := Lib.hid hw2
                          have HHM := Lib.hid hhm
                          clear hw2
                          try clear he
                          try clear t1
                          try clear t2
                          try clear hk0
                          try clear hk8
                          try clear hcc63
                          try clear hnc1
                          try clear hn1024
                          try clear hd0
                          try clear hdn1
                          try clear hd
                          try clear hj0
                          try clear hj1
                          try clear hm1
                          try clear hh0
                          try clear hh1
                          try clear q1'
                          try clear q2'
                          try clear hxn
                          try clear hxm'
                          try clear l1
                          try clear l2'
                          try clear hj
                          try clear hh
                          try clear hhQ
                          try clear z0
                          try clear z1
                          try clear z2
                          try clear z3
                          try clear y0
                          try clear y1
                          try clear y2
                          try clear y3
                          go_wp2_with fail
                          refine ⟨?rel, ?measure⟩
                          case rel => exact ⟨h + 1, Nat.succ_le_of_lt HHM.out, congrArg (Value.int .i64) HW2.out, HNO.out _ ((Gr.refl _).drewN _)⟩
                          case measure => rw [show (wrap64 ((h : Int) + 1)) = ((h + 1 : Nat) : Int) from HW2.out]; exact Nat.sub_lt_sub_left HHM.out (Nat.lt_succ_self h)
                        · go_wp2_with fail
                          go_quiet (fail)
                          go_wp2
                          go_ret
                          exact ⟨rfl, (HGWO.out.trans (HS5.out.2.2.trans HXX.out.1)).trans ((Gr.refl _).drewN _)⟩
                      · have t1 : decide (ok = 4) = false := decide_eq_false hk4
                        have t2 : (ok == 4) = false := by simpa using hk4
                        have HNO := Lib.hid (HGO.out (fun x => hk4 x.1))
                        go_wp2_with fail
                        go_quiet (fail)
                        have HW2 := Lib.hid hw2
                        have HHM := Lib.hid hhm
                        clear hw2
                        try clear he
                        try clear t1
                        try clear t2
                        try clear hk0
                        try clear hk8
                        try clear hcc63
                        try clear hnc1
                        try clear hn1024
                        try clear hd0
                        try clear hdn1
                        try clear hd
                        try clear hj0
                        try clear hj1
                        try clear hm1
                        try clear hh0
                        try clear hh1
                        try clear q1'
                        try clear q2'
                        try clear hxn
                        try clear hxm'
                        try clear l1
                        try clear l2'
                        try clear hj
                        try clear hh
                        try clear hhQ
                        try clear z0
                        try clear z1
                        try clear z2
                        try clear z3
                        try clear y0
                        try clear y1
                        try clear y2
                        try clear y3
                        go_wp2_with fail
                        refine ⟨?rel, ?measure⟩
                        case rel => exact ⟨h + 1, Nat.succ_le_of_lt HHM.out, congrArg (Value.int .i64) HW2.out, HNO.out _ ((Gr.refl _).drewN _)⟩
                        case measure => rw [show (wrap64 ((h : Int) + 1)) = ((h + 1 : Nat) : Int) from HW2.out]; exact Nat.sub_lt_sub_left HHM.out (Nat.lt_succ_self h)
                    · have hhm2 : h = m := by omega
                      have HNT : Hid (NoTwo (Q ++ [⟨ok, oky, oe, on⟩])) := Lib.hid (noTwo_snoc HS5.out.2.1 fun q hq => hst.out.2 q hq (by rw [hhm2, HM.out]; exact hq))
                      have HGX := Lib.hid hst.out.1
                      clear hst hhm2
                      obtain ⟨W6, hW6, hg6, hb6⟩ : ∃ X, X = wx.alloc (.cells (opv ⟨ok, oky, oe, on⟩) 52) ∧ Gr wx X ∧ X.heap[wx.heap.size]? = some (.cells (opv ⟨ok, oky, oe, on⟩) 52 (0, 0)) := ⟨_, rfl, (Gr.refl _).alloc _, heap_alloc _ _ _⟩
                      have HO6 : Hid (TOO (wx.alloc (.cells (opv ⟨ok, oky, oe, on⟩) 52)) wo.heap.size (.slice A2 m c2) Q ∧ TOV (wx.alloc (.cells (opv ⟨ok, oky, oe, on⟩) 52)) (.slice (some ⟨wx.heap.size, 0, none⟩) 1 1) [⟨ok, oky, oe, on⟩] ∧ Gr wo (wx.alloc (.cells (opv ⟨ok, oky, oe, on⟩) 52))) := Lib.hid (by rw [← hW6]; exact ⟨(HS5.out.1.gr HGX.out).gr hg6, tov_oneT hb6, (HS5.out.2.2.trans HGX.out).trans hg6⟩)
                      have hln9 : (m + 1) * 48 ≤ 140737488355328 := by omega
                      clear hW6 hg6 hb6
                      go_wp2_with (at_builtin; refine wpList_push_opsT (w0 := wo) rfl (.tmp 92) (.tmp 94) rfl (.slice A2 m c2) (.slice (some ⟨wx.heap.size, 0, none⟩) 1 1) Q [⟨ok, oky, oe, on⟩] m 1 HM.out rfl rfl HO6.out.1 rfl HO6.out.2.1 hln9 HO6.out.2.2 ?_)
                      intro A9 c9' w9 hown9 hg9 hgrow9
                      have HS9 : Hid (TOO w9 wo.heap.size (.slice A9 (m + 1) c9') (PRE ++ t.ops.take (j + 1)) ∧ NoTwo (PRE ++ t.ops.take (j + 1)) ∧ Gr wo w9) := Lib.hid (by rw [HNQ.out]; exact ⟨hown9, HNT.out, hg9⟩)
                      have hnx8 := HNX8.out
                      clear hown9 hg9 hgrow9 hln9
                      go_wp2_with fail
                      go_roundw
                      case measure => simp [intOf]; omega
                      case rel => exact ⟨j + 1, by omega, by go_num, HS9⟩
                · have hjn2 : j = nx := by omega
                  have HTK : Hid (((l k).take (d + 1)).flatMap (·.ops) = PRE ++ t.ops.take j) := Lib.hid (by
                    rw [hjn2, HNX.out, List.take_length, HPRE.out, List.take_succ_eq_append_getElem hdl, List.flatMap_append, ← HTD.out]
                    simp only [List.flatMap_cons, List.flatMap_nil, List.append_nil])
                  have HS : Hid (TOO wr wo.heap.size u8 (((l k).take (d + 1)).flatMap (·.ops)) ∧ NoTwo (((l k).take (d + 1)).flatMap (·.ops)) ∧ Gr wo wr ∧ ∀ q (hq : q < (l k).length), q < d + 1 → formC L (k : Int) (l k)[q].ops = 0) := Lib.hid (by
                    rw [HTK.out]
                    refine ⟨hst.out.1, hst.out.2.1, hst.out.2.2, fun q hq hqd => ?_⟩
                    by_cases e : q = d
                    · subst e; rw [← HTD.out]; exact HZ.out.symm
                    · exact HAL.out.2.2.2 q hq (by omega))
                  have hlast : ¬ ((j : Int) < (nx : Int)) := by omega
                  clear hst hjn2 hj hjn
                  go_wp2_with fail
                  go_roundw
                  case measure => simp [intOf]; omega
                  case rel => exact ⟨d + 1, by omega, by go_num, HS⟩
            · have t1 : (fc != 0) = true := by simpa using hf0
              go_wp2_with fail
              go_ret
              exact ⟨rfl, HG.out.trans HGC.out⟩
        · have hdn2 : d = n := by omega
          have HS : Hid (Gr W wi ∧ ∀ q, q < k + 1 → (∀ t ∈ l q, formC L (q : Int) t.ops = 0) ∧ NoTwo ((l q).flatMap (·.ops))) := Lib.hid ⟨HST.out.1.trans hst.out.2.2.1, fun q hq => by
            by_cases e : q = k
            · subst e
              refine ⟨fun t ht => ?_, ?_⟩
              · obtain ⟨p, hp, rfl⟩ := List.mem_iff_getElem.1 ht
                exact hst.out.2.2.2 p hp (by rw [hdn2, HNL.out]; exact hp)
              · have h1 := hst.out.2.1
                rw [List.take_of_length_le (by rw [hdn2, HNL.out]; exact Nat.le_refl _)] at h1
                exact h1
            · exact HST.out.2 q (by omega)⟩
          have hlast : ¬ ((d : Int) < (n : Int)) := by omega
          clear hst hdn2 hd hdn
          go_wp2_with fail
          go_roundw
          case measure => simp [intOf]; omega
          case rel => exact ⟨k + 1, by omega, by go_num, HS⟩
    · have h8 : k = 8 := by omega
      have HFO : Hid ((∀ i, i < 8 → ∀ t ∈ l i, formC L (i : Int) t.ops = 0) ∧ ∀ i, i < 8 → NoTwo ((l i).flatMap (·.ops))) := Lib.hid (by have h := hst.out.2; rw [h8] at h; exact ⟨fun i hi => (h i hi).1, fun i hi => (h i hi).2⟩)
      have hge : ¬ ((k : Int) < 8) := by omega
      have HGO := Lib.hid (HG.out.trans hst.out.1)
      have HGOW := Lib.hid hst.out.1
      clear hst h8 hk hlt
      go_wp2_with fail
      go_loopw [13, 14] (fun s i wr => ∃ j : Nat, j ≤ N ∧ i = .int .i64 j ∧ Hid (UO wr wo.heap.size s (idsOf (L.take j)) ∧ Gr wo wr)) (fun _ i _ => N - (intOf i).toNat)
      case atStart => exact ⟨0, Nat.zero_le _, rfl, Lib.hid ⟨UO.nil _ _, Gr.refl _⟩⟩
      case round =>
        obtain ⟨j, hj, rfl, hst⟩ := hrel
        rename World => wr
        by_cases hjn : j < N
        · have hjL : j < L.length := by rw [← HN.out]; exact hjn
          have hj0 : (0 : Int) ≤ (j : Int) := Int.natCast_nonneg _
          have hj1 : (j : Int) < (N : Int) := by omega
          obtain ⟨b, off, rfl, hrc⟩ := HAT.out j hjL
          obtain ⟨r, hr⟩ : ∃ r, r = L[j] := ⟨_, rfl⟩
          rw [← hr] at hrc
          have HTK := Lib.hid (idsOf_take hjL)
          rw [← hr] at HTK
          obtain ⟨x0, x1, x2, x3, x4⟩ := hrc.gr (HGO.out.trans hst.out.2)
          obtain ⟨O, hO⟩ : ∃ O, O = idsOf (L.take j) := ⟨_, rfl⟩
          have HOL : Hid (O.length ≤ j) := Lib.hid (by rw [hO]; refine Nat.le_trans (idsOf_len _) ?_; rw [List.length_take]; exact Nat.min_le_left _ _)
          rw [← hO] at HTK hst
          obtain ⟨A2, c2, hs2⟩ := uv_form hst.out.1.uv
          subst hs2
          obtain ⟨m, hm⟩ : ∃ m, m = O.length := ⟨_, rfl⟩
          rw [← hm] at hst HOL ⊢
          have HM := Lib.hid hm
          have HS5 := hst
          have hln : (m + 1) * 56 ≤ 140737488355328 := by have := HLN.out; have := HN.out; have := HOL.out; omega
          have HLJ := Lib.hid hln
          obtain ⟨rk, rkey, roth, rmin, rst⟩ := r
          simp only at HTK
          clear hr hrc hst hO hm hln
          by_cases k8 : rk = 8
          · subst k8
            rw [if_pos rfl] at HTK
            go_wp2_with (at_builtin; refine wpList_push_u (w0 := wo) rfl (.tmp 108) (.tmp 113) rfl (.slice A2 m c2) (.slice (some ⟨wr.heap.size, 0, none⟩) 1 1) O [⟨8, rkey, roth, rmin, rst⟩] m 1 HM.out rfl rfl (HS5.out.1.gr (gr_box _ _)) rfl (uv_one wr ⟨8, rkey, roth, rmin, rst⟩ _ rfl) HLJ.out (HS5.out.2.alloc _) ?_)
            intro A9 c9' w9 hown9 hg9 hgrow9
            have HS9 : Hid (UO w9 wo.heap.size (.slice A9 (m + 1) c9') (idsOf (L.take (j + 1))) ∧ Gr wo w9) := Lib.hid ⟨by rw [HTK.out]; exact hown9, hg9⟩
            clear hown9 hg9 hgrow9
            go_wp2_with fail
            go_roundw
            case measure => simp [intOf]; omega
            case rel => exact ⟨j + 1, by omega, by go_num, HS9⟩
          · rw [if_neg k8] at HTK
            have t8 : (rk == 8) = false := by simpa using k8
            have HS9 : Hid (UO wr wo.heap.size (.slice A2 m c2) (idsOf (L.take (j + 1))) ∧ Gr wo wr) := Lib.hid ⟨by rw [HTK.out]; exact HS5.out.1, HS5.out.2⟩
            go_wp2_with fail
            go_roundw
            case measure => simp [intOf]; omega
            case rel => exact ⟨j + 1, by omega, by go_num, HS9⟩
        · obtain rfl : j = N := by omega
          have htk : L.take j = L := by rw [HN.out]; exact List.take_length
          have hso := hst.out.1
          rw [htk] at hso
          obtain ⟨As, cs, hs2⟩ := uv_form hso.uv
          subst hs2
          obtain ⟨mi, hmi⟩ : ∃ m, m = (idsOf L).length := ⟨_, rfl⟩
          rw [← hmi] at hso ⊢
          have HSO := Lib.hid hso.uv
          have HGW := Lib.hid (HGO.out.trans hst.out.2)
          have HLBW := Lib.hid (HL.out.gr (HGOW.out.trans hst.out.2))
          have HVBW := Lib.hid (HVB.out.gr (HGOW.out.trans hst.out.2))
          have HH := Lib.hid (fun u2 c w1 (g : Gr w w1) (h1 : UV w1 (.slice As mi cs) (idsOf L)) (h2 : LV w1 u2 l) => holds14_any ⟨As, mi, cs⟩ (idsOf L) u2 l c w1 h1 h2 HFL.out.q (key_leI HKS.out) (HP.out.gr g))
          have HRS := Lib.hid (fun c (hc : IsClose l cv c) => ids_hold HCE.out.symm HFO.out.1 HFO.out.2 HCE9.out.symm (closedB_iff.2 hc.closed))
          clear hst htk hso hmi
          go_upto_region 30 with (fail)
          refine wp_region_held_drew (S := fun w' => LC w' w.heap.size u ∧ VC w' (w.heap.size + 1) cv) (by kernel_rfl) ⟨(HLBW.out.gr (Gr.refl _).drew).all, (HVBW.out.gr (Gr.refl _).drew).all⟩ (fun hHeld => ?_)
          refine hTake (i := 0) rfl (by kernel_rfl) (by kernel_rfl) (by kernel_rfl) (by kernel_rfl) (by assumption) ?_
          apply Exists.intro
          refine ⟨fun _ _ _ h => h, fun wq hq => ?_, ?_⟩
          · go_light
            obtain ⟨⟨p0, p1, p2, p3, p4, p5, p6, p7⟩, ⟨q0, q1, q2, q3, q4, q5, q6, q7⟩⟩ := hq
            go_simp
            try with_reducible rfl
            done
          try simp only [Act.put, List.setIfInBounds_toArray, List.set_cons_zero, List.set_cons_succ, List.getElem_toArray, List.getElem_cons_succ, List.getElem_cons_zero]
          refine hTake (i := 1) rfl (by kernel_rfl) (by kernel_rfl) (by kernel_rfl) (by kernel_rfl) (by assumption) ?_
          apply Exists.intro
          refine ⟨fun _ _ _ h => h, fun wq hq => ?_, ?_⟩
          · go_light
            obtain ⟨⟨p0, p1, p2, p3, p4, p5, p6, p7⟩, ⟨q0, q1, q2, q3, q4, q5, q6, q7⟩⟩ := hq
            go_simp
            try with_reducible rfl
            done
          try simp only [Act.put, List.setIfInBounds_toArray, List.set_cons_zero, List.set_cons_succ, List.getElem_toArray, List.getElem_cons_succ, List.getElem_cons_zero]
          refine hTake (i := 3) rfl (by kernel_rfl) (by kernel_rfl) (by kernel_rfl) (by kernel_rfl) (by assumption) ?_
          apply Exists.intro
          refine ⟨fun _ _ _ h => h, fun wq hq => ?_, ?_⟩
          · go_light
            obtain ⟨⟨p0, p1, p2, p3, p4, p5, p6, p7⟩, ⟨q0, q1, q2, q3, q4, q5, q6, q7⟩⟩ := hq
            go_simp
            try with_reducible rfl
            done
          try simp only [Act.put, List.setIfInBounds_toArray, List.set_cons_zero, List.set_cons_succ, List.getElem_toArray, List.getElem_cons_succ, List.getElem_cons_zero]
          refine hTake (i := 4) rfl (by kernel_rfl) (by kernel_rfl) (by kernel_rfl) (by kernel_rfl) (by assumption) ?_
          apply Exists.intro
          refine ⟨fun _ _ _ h => h, fun wq hq => ?_, ?_⟩
          · go_light
            obtain ⟨⟨p0, p1, p2, p3, p4, p5, p6, p7⟩, ⟨q0, q1, q2, q3, q4, q5, q6, q7⟩⟩ := hq
            go_simp
            try with_reducible rfl
            done
          try simp only [Act.put, List.setIfInBounds_toArray, List.set_cons_zero, List.set_cons_succ, List.getElem_toArray, List.getElem_cons_succ, List.getElem_cons_zero]
          have hg3d : Gr wr wr.drew := (Gr.refl _).drew
          generalize wr.drew = W3 at *
          have HGD := Lib.hid hg3d
          have HSD := Lib.hid hHeld
          clear hg3d hHeld
          refine wpAnyH_ready (rs := [2]) (by kernel_rfl) (by simp) ?_
          refine AllReadyH.cons rfl (fun K hK => ?_) AllReadyH.nil
          go_simp
          go_at_call 17
          refine (HCP.out _ (HGW.out.trans HGD.out)).mono ?_
          rintro e w5 ⟨u5', rfl, hu5, g5⟩
          have HG5 := Lib.hid (HGD.out.trans g5)
          have HU5 := Lib.hid hu5.lv
          have HS5 : Hid (LC w5 w.heap.size u ∧ VC w5 (w.heap.size + 1) cv) := Lib.hid ⟨HSD.out.1.gr g5, HSD.out.2.gr g5⟩
          clear g5 hu5
          go_wp2_with fail
          refine hK.out _ _ HS5.out (fun hHeld => ?_)
          clear hK K
          try simp only [Act.put, List.setIfInBounds_toArray, List.set_cons_zero, List.set_cons_succ, List.getElem_toArray, List.getElem_cons_succ, List.getElem_cons_zero]
          refine wpAnyH_ready (rs := [5]) (by kernel_rfl) (by simp) ?_
          refine AllReadyH.cons rfl (fun K hK => ?_) AllReadyH.nil
          go_simp
          go_at_call 25
          refine (HCL.out _ (HGW.out.trans HG5.out)).mono ?_
          rintro e w6 ⟨c6, rfl, hc6, g6⟩
          have HG6 := Lib.hid (HG5.out.trans g6)
          have HU6 := Lib.hid (HU5.out.gr g6)
          have HC6 := Lib.hid hc6
          have HS6 : Hid (LC w6 w.heap.size u ∧ VC w6 (w.heap.size + 1) cv) := Lib.hid ⟨HS5.out.1.gr g6, HS5.out.2.gr g6⟩
          clear g6 hc6 hHeld
          go_wp2_with fail
          refine hK.out _ _ HS6.out (fun hHeld => ?_)
          clear hK K
          try simp only [Act.put, List.setIfInBounds_toArray, List.set_cons_zero, List.set_cons_succ, List.getElem_toArray, List.getElem_cons_succ, List.getElem_cons_zero]
          refine wpAnyH_ready (rs := [6]) (by kernel_rfl) (by simp) ?_
          refine AllReadyH.cons rfl (fun K hK => ?_) AllReadyH.nil
          go_simp
          go_at_call 15
          refine (HH.out _ c6 _ (HGW.out.trans HG6.out) (HSO.out.gr HG6.out) HU6.out).mono ?_
          rintro e w7 ⟨rfl, g7⟩
          have HG7 := Lib.hid ((HGW.out.trans HG6.out).trans g7)
          have HS7 : Hid (LC w7 w.heap.size u ∧ VC w7 (w.heap.size + 1) cv) := Lib.hid ⟨HS6.out.1.gr g7, HS6.out.2.gr g7⟩
          rw [(HRS.out c6 HC6.out).1, (HRS.out c6 HC6.out).2]
          clear g7 hHeld
          go_wp2_with fail
          refine hK.out _ _ HS7.out (fun hHeld => ?_)
          clear hK K
          try simp only [Act.put, List.setIfInBounds_toArray, List.set_cons_zero, List.set_cons_succ, List.getElem_toArray, List.getElem_cons_succ, List.getElem_cons_zero]
          refine hTake (i := 7) rfl (by kernel_rfl) (by kernel_rfl) (by kernel_rfl) (by kernel_rfl) (by assumption) ?_
          apply Exists.intro
          refine ⟨fun _ _ _ h => h, fun wq hq => ?_, ?_⟩
          · go_light
            obtain ⟨⟨p0, p1, p2, p3, p4, p5, p6, p7⟩, ⟨q0, q1, q2, q3, q4, q5, q6, q7⟩⟩ := hq
            go_simp
            try with_reducible rfl
            done
          try simp only [Act.put, List.setIfInBounds_toArray, List.set_cons_zero, List.set_cons_succ, List.getElem_toArray, List.getElem_cons_succ, List.getElem_cons_zero]
          refine hTake (i := 8) rfl (by kernel_rfl) (by kernel_rfl) (by kernel_rfl) (by kernel_rfl) (by assumption) ?_
          apply Exists.intro
          refine ⟨fun _ _ _ h => h, fun wq hq => ?_, ?_⟩
          · go_light
            obtain ⟨⟨p0, p1, p2, p3, p4, p5, p6, p7⟩, ⟨q0, q1, q2, q3, q4, q5, q6, q7⟩⟩ := hq
            go_simp
            try with_reducible rfl
            done
          try simp only [Act.put, List.setIfInBounds_toArray, List.set_cons_zero, List.set_cons_succ, List.getElem_toArray, List.getElem_cons_succ, List.getElem_cons_zero]
          refine hTake (i := 9) rfl (by kernel_rfl) (by kernel_rfl) (by kernel_rfl) (by kernel_rfl) (by assumption) ?_
          apply Exists.intro
          refine ⟨fun _ _ _ h => h, fun wq hq => ?_, ?_⟩
          · go_light
            obtain ⟨⟨p0, p1, p2, p3, p4, p5, p6, p7⟩, ⟨q0, q1, q2, q3, q4, q5, q6, q7⟩⟩ := hq
            go_simp
            try with_reducible rfl
            done
          try simp only [Act.put, List.setIfInBounds_toArray, List.set_cons_zero, List.set_cons_succ, List.getElem_toArray, List.getElem_cons_succ, List.getElem_cons_zero]
          refine wpAnyH_ready (rs := [10]) (by kernel_rfl) (by simp) ?_
          refine AllReadyH.cons rfl (fun K hK => ?_) AllReadyH.nil
          go_simp
          refine hK.out _ _ HS7.out (fun hHeld => ?_)
          clear hK K
          try simp only [Act.put, List.setIfInBounds_toArray, List.set_cons_zero, List.set_cons_succ, List.getElem_toArray, List.getElem_cons_succ, List.getElem_cons_zero]
          refine wpAnyH_ready (rs := [11]) (by kernel_rfl) (by simp) ?_
          refine AllReadyH.cons rfl (fun K hK => ?_) AllReadyH.nil
          go_simp
          refine hK.out _ _ HS7.out (fun hHeld => ?_)
          clear hK K
          try simp only [Act.put, List.setIfInBounds_toArray, List.set_cons_zero, List.set_cons_succ, List.getElem_toArray, List.getElem_cons_succ, List.getElem_cons_zero]
          refine wpAnyH_done (by kernel_rfl) ?_ _
          go_wp2_with fail
          go_ret
          exact ⟨rfl, HG7.out⟩
end Go.Proofs.YtnjmgknicffcbaaGreatDoor
