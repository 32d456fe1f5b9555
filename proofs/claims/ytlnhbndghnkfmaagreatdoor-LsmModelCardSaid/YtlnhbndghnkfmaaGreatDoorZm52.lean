/- Mathematics of a store: what Get answers; a change in a rising list of pairs, as the law's list of pairs takes it. Walks: below, model, models, of the laws of stores. Walks: model and models, of the laws of stores. Walks: models, of the laws of stores. -/
import Derived.Test.YtlnhbndghnkfmaaGreatDoorZm51
namespace Go.Proofs.YtlnhbndghnkfmaaGreatDoor
open Go.RowKit

theorem fromPR_key (p : PR) : (fromPR p).key = p.key := by
  unfold fromPR
  split <;> rfl
theorem getR_cons (p : PR) (L : List PR) (k : ByteArray) : getR (p :: L) k = if eqS p.key k then some p.val else getR L k := by
  unfold getR
  rw [List.find?_cons]
  cases eqS p.key k <;> rfl
theorem getR_no {L : List PR} {k : ByteArray} (h : ∀ p ∈ L, p.key ≠ k) : getR L k = none := by
  unfold getR
  rw [List.find?_eq_none.2 fun p hp e => h p hp (eqS_iff.1 e)]
  rfl
theorem lastK_pairs : ∀ {L : List PR}, rises L → ∀ k, lastK (L.map fromPR) k = (getR L k).map fun v => fromPR ⟨k, v⟩
  | [], _, k => rfl
  | p :: L, h, k => by
    rw [List.map_cons, lastK_cons, lastK_pairs (rises_tail h), getR_cons, fromPR_key]
    by_cases e : p.key = k
    · rw [eqS_iff.2 e, getR_no fun q hq e2 => lessS_ne (rises_head h hq) (e.trans e2.symm)]
      subst e
      rfl
    · rw [eqS_ne e]
      show (Option.map _ (getR L k)).or none = Option.map _ (getR L k)
      cases getR L k <;> rfl
theorem tabGet_lastK {L : List F} {t : ByteArray} {f : F} (hf : lk L t = some f) (hl : f.loose = ⟨#[]⟩) (ha : (allR f.kept.data.toList).isSome = true) (k : ByteArray) : lastK (tabC L t) k = (tabGet L t k).map fun v => fromPR ⟨k, v⟩ := by
  have hb : bytesF L t = (f.kept ++ f.loose, 0) := by
    unfold bytesF
    rw [find?_bytes]
    unfold lk at hf
    rw [hf]
  have e : f.kept ++ (⟨#[]⟩ : ByteArray) = f.kept := ByteArray.append_empty
  rw [hl, e] at hb
  unfold tabC tabGet inTab
  rw [hb]
  show lastK (List.map fromPR ((if 0 = 0 then allR f.kept.data.toList else none).getD [])) k = _
  rw [if_pos rfl]
  cases h : allR f.kept.data.toList with
  | none => rw [h] at ha; cases ha
  | some ps => exact lastK_pairs (allR_rises h) k
theorem tabsGet_lastK {L : List F} (k : ByteArray) : ∀ {T : List ByteArray}, (∀ t ∈ T, ∃ f, lk L t = some f ∧ f.loose = ⟨#[]⟩ ∧ (allR f.kept.data.toList).isSome = true) → lastK (tabsC L T) k = (tabsGet L T k).map fun v => fromPR ⟨k, v⟩
  | [], _ => rfl
  | t :: T, h => by
    obtain ⟨f, h1, h2, h3⟩ := h t List.mem_cons_self
    have ih := tabsGet_lastK (L := L) k (T := T) fun x hx => h x (List.mem_cons_of_mem _ hx)
    unfold tabsC at ih ⊢
    unfold tabsGet at ih ⊢
    rw [List.flatMap_cons, lastK_append, ih, tabGet_lastK h1 h2 h3, List.reverse_cons, List.findSome?_append]
    cases T.reverse.findSome? fun nm => tabGet L nm k with
    | some v => rfl
    | none =>
      show (tabGet L t k).map _ = (Option.or none ([t].findSome? fun nm => tabGet L nm k)).map _
      rw [List.findSome?_cons]
      cases tabGet L t k <;> rfl
/-- Get tells what the store's changes leave. -/
theorem getS_live {s : St} {R : List ByteArray} {Q : List (List CR)} {n c : Nat} (h : SI s R Q n c) (k : ByteArray) : getS s k = liveK (viewS s) k := by
  unfold viewS
  rw [liveK_append]
  unfold getS liveK
  rw [tabsGet_lastK k h.tab]
  cases lastK s.mem k with
  | some c => rfl
  | none => cases tabsGet s.files s.tabs k <;> rfl
/-- A change in a rising list of pairs, by one walk over it. -/
def modP (c : CR) : List PR → Bool → List PR
  | [], put => if put then [] else [pairK c]
  | x :: l, put => (if (!put && !lessS x.key c.key) then [pairK c] else []) ++ (if eqS x.key c.key then [] else [x]) ++ modP c l (put || !lessS x.key c.key)
theorem modP_true (c : CR) : ∀ L : List PR, modP c L true = L.filter fun p => !eqS p.key c.key
  | [] => rfl
  | x :: l => by
    show (if (false && !lessS x.key c.key) then [pairK c] else []) ++ (if eqS x.key c.key then [] else [x]) ++ modP c l (true || !lessS x.key c.key) = _
    rw [Bool.true_or, modP_true c l, List.filter_cons]
    cases eqS x.key c.key <;> simp
theorem modP_less {c : CR} : ∀ {L : List PR}, (∀ p ∈ L, lessS c.key p.key = true) → modP c L false = pairK c :: L
  | [], _ => rfl
  | x :: l, h => by
    have hx := h x List.mem_cons_self
    have h1 := lessS_asymm hx
    have h2 : eqS x.key c.key = false := eqS_ne fun e => lessS_ne hx e.symm
    show (if (!false && !lessS x.key c.key) then [pairK c] else []) ++ (if eqS x.key c.key then [] else [x]) ++ modP c l (false || !lessS x.key c.key) = _
    rw [h1, h2]
    show [pairK c] ++ [x] ++ modP c l true = _
    rw [modP_true, List.filter_eq_self.2 fun p hp => by rw [eqS_ne fun e => lessS_ne (h p (List.mem_cons_of_mem _ hp)) e.symm]; rfl]
    rfl
def liveP (A : List CR) : List PR := (A.filter fun c => !c.gone).map pairK
theorem liveP_cons (x : CR) (A : List CR) : liveP (x :: A) = (if x.gone then [] else [pairK x]) ++ liveP A := by
  unfold liveP
  rw [List.filter_cons]
  cases x.gone <;> rfl
theorem liveP_mem {A : List CR} {p : PR} (h : p ∈ liveP A) : ∃ x ∈ A, p.key = x.key := by
  obtain ⟨x, hx, e⟩ := List.mem_map.1 h
  exact ⟨x, (List.mem_filter.1 hx).1, by rw [← e]; rfl⟩
theorem liveP_ne {c : CR} {A : List CR} (h : ∀ x ∈ A, lessS c.key x.key = true) : (liveP A).filter (fun p => !eqS p.key c.key) = liveP A :=
  List.filter_eq_self.2 fun p hp => by
    obtain ⟨x, hx, e⟩ := liveP_mem hp
    rw [e, eqS_ne fun e2 => lessS_ne (h x hx) e2.symm]
    rfl
theorem modP_gone {c : CR} (hg : c.gone = true) : ∀ {A : List CR}, rising A → modP c (liveP A) true = liveP (putC A c)
  | [], _ => by
    show [] = liveP [c]
    rw [liveP_cons, hg]
    rfl
  | x :: A, h => by
    obtain ⟨h1, h2⟩ := rising_cons h
    have ih := modP_gone hg h2
    rw [modP_true] at ih ⊢
    rw [liveP_cons, List.filter_append]
    show _ = liveP (if lessS x.key c.key then x :: putC A c else if eqS x.key c.key then c :: A else c :: x :: A)
    by_cases e1 : lessS x.key c.key = true
    · have e2 : eqS x.key c.key = false := eqS_ne fun e => lessS_ne e1 e
      rw [if_pos e1, liveP_cons, ih]
      congr 1
      cases x.gone
      · show List.filter _ [pairK x] = [pairK x]
        rw [List.filter_cons]
        show (if (!eqS x.key c.key) = true then _ else _) = _
        rw [e2]
        rfl
      · rfl
    · rw [if_neg e1]
      by_cases e2 : eqS x.key c.key = true
      · rw [if_pos e2, liveP_cons, hg]
        have e3 := eqS_iff.1 e2
        rw [liveP_ne fun y hy => by rw [← e3]; exact h1 y hy]
        cases x.gone
        · show List.filter _ [pairK x] ++ _ = _
          rw [List.filter_cons]
          show (if (!eqS x.key c.key) = true then _ else _) ++ _ = _
          rw [e2]
          rfl
        · rfl
      · have e3 : lessS c.key x.key = true := by
          rcases lessS_total x.key c.key with q | q | q
          · exact absurd q e1
          · exact absurd (eqS_iff.2 q) e2
          · exact q
        rw [if_neg e2, liveP_cons c, hg, liveP_cons x, liveP_ne fun y hy => lessS_trans e3 (h1 y hy)]
        show _ = [] ++ _
        rw [List.nil_append]
        congr 1
        cases x.gone
        · show List.filter _ [pairK x] = [pairK x]
          rw [List.filter_cons]
          show (if (!eqS x.key c.key) = true then _ else _) = _
          rw [show eqS x.key c.key = false by simpa using e2]
          rfl
        · rfl
theorem modP_put {c : CR} (hg : c.gone = false) : ∀ {A : List CR}, rising A → modP c (liveP A) false = liveP (putC A c)
  | [], _ => by
    show [pairK c] = liveP [c]
    rw [liveP_cons, hg]
    rfl
  | x :: A, h => by
    obtain ⟨h1, h2⟩ := rising_cons h
    have ih := modP_put hg h2
    show _ = liveP (if lessS x.key c.key then x :: putC A c else if eqS x.key c.key then c :: A else c :: x :: A)
    have hc : ∀ B, liveP (c :: B) = pairK c :: liveP B := fun B => by rw [liveP_cons, hg]; rfl
    by_cases e1 : lessS x.key c.key = true
    · have e2 : eqS x.key c.key = false := eqS_ne fun e => lessS_ne e1 e
      rw [if_pos e1, liveP_cons, liveP_cons x, ← ih]
      cases x.gone
      · show (if (!false && !lessS x.key c.key) then [pairK c] else []) ++ (if eqS x.key c.key then [] else [pairK x]) ++ modP c (liveP A) (false || !lessS x.key c.key) = _
        rw [e1, e2]
        rfl
      · rfl
    · rw [if_neg e1]
      by_cases e2 : eqS x.key c.key = true
      · have e3 := eqS_iff.1 e2
        have hA : ∀ y ∈ A, lessS c.key y.key = true := fun y hy => by rw [← e3]; exact h1 y hy
        rw [if_pos e2, hc, liveP_cons]
        cases x.gone
        · show (if (!false && !lessS x.key c.key) then [pairK c] else []) ++ (if eqS x.key c.key then [] else [pairK x]) ++ modP c (liveP A) (false || !lessS x.key c.key) = _
          rw [show lessS x.key c.key = false by simpa using e1, e2]
          show [pairK c] ++ [] ++ modP c (liveP A) true = _
          rw [modP_true, liveP_ne hA]
          rfl
        · show modP c (liveP A) false = _
          exact modP_less fun p hp => by
            obtain ⟨y, hy, e⟩ := liveP_mem hp
            rw [e]
            exact hA y hy
      · have e3 : lessS c.key x.key = true := by
          rcases lessS_total x.key c.key with q | q | q
          · exact absurd q e1
          · exact absurd (eqS_iff.2 q) e2
          · exact q
        rw [if_neg e2, hc]
        exact modP_less fun p hp => by
          obtain ⟨y, hy, e⟩ := liveP_mem hp
          rw [e]
          rcases List.mem_cons.1 hy with rfl | hy
          · exact e3
          · exact lessS_trans e3 (h1 y hy)
/-- A change in the pairs that a rising list of changes leaves. -/
theorem modP_held {c : CR} {A : List CR} (h : rising A) : modP c (liveP A) c.gone = liveP (putC A c) := by
  cases hg : c.gone with
  | true => exact modP_gone hg h
  | false => exact modP_put hg h
theorem liveP_held (W : List CR) : liveP (puts [] W) = (heldL W).map pairK := rfl
end Go.Proofs.YtlnhbndghnkfmaaGreatDoor
namespace Go.Proofs.YtlnhbndghnkfmaaGreatDoor
open Go.RowKit

def hiB : ByteArray := ⟨#[255, 255, 255, 255]⟩
theorem hiB_list : hiB.toList = [255, 255, 255, 255] := by
  unfold hiB
  exact by decide +kernel
def belowR (L : List PR) : List PR := L.filter fun p => lessS p.key hiB
theorem below_yes {L : List PR} {j : Nat} (h : j < L.length) (hy : lessS L[j].key hiB = true) : belowR (L.take (j + 1)) = belowR (L.take j) ++ [L[j]] := by
  unfold belowR
  rw [List.take_succ_eq_append_getElem h, List.filter_append]
  simp [hy]
theorem below_no {L : List PR} {j : Nat} (h : j < L.length) (hy : lessS L[j].key hiB = false) : belowR (L.take (j + 1)) = belowR (L.take j) := by
  unfold belowR
  rw [List.take_succ_eq_append_getElem h, List.filter_append]
  simp [hy]
theorem belowR_len (L : List PR) : (belowR L).length ≤ L.length := List.length_filter_le _ _
set_option maxRecDepth 100000 in
set_option maxHeartbeats 2000000 in
theorem below_any (v : Value) (L : List PR) (w : World) (hv : PV w v L) (hl : L.length ≤ 1000000000) :
    Calls Tryz.prog 32 #[v] w fun e w' => ∃ u, e = .returned u ∧ PO w' w.heap.size u (belowR L) ∧ Gr w w' := by
  obtain ⟨A, c, rfl, l1, ⟨l2, -⟩, l3⟩ := hv
  unfold maxLen at l2
  obtain ⟨n, hn⟩ : ∃ n, n = L.length := ⟨_, rfl⟩
  have HN := Lib.hid hn
  rw [← hn] at l1 hl ⊢
  have HP := Lib.hid l3
  clear l3 hn
  go_enter Tryz.func32, Tryz.ntmps32
  go_wp2_with fail
  go_loopg [3, 4] (n + 1) (fun kx s3 s4 wr => ∃ (j : Nat), s4 = .int .i64 (j : Int) ∧ j ≤ n ∧ n - j ≤ kx ∧ Hid (PO wr w.heap.size s3 (belowR (L.take j)) ∧ Gr w wr))
  case atStart => exact ⟨0, rfl, Nat.zero_le _, by omega, Lib.hid ⟨PO.nil _ _, Gr.refl _⟩⟩
  case round =>
    obtain ⟨j, rfl, hj, hkx, HI⟩ := hrel
    by_cases hlt : j < n
    · have hjL : j < L.length := by rw [← HN.out]; exact hlt
      obtain ⟨bb, off, rfl, q0, q1⟩ := HP.out j hjL
      obtain ⟨f, hf⟩ : ∃ f, f = L[j] := ⟨_, rfl⟩
      rw [← hf] at q0 q1
      have HY : Hid (lessS f.key hiB = true → belowR (L.take (j + 1)) = belowR (L.take j) ++ [f]) := Lib.hid (fun h => by rw [hf] at h ⊢; exact below_yes hjL h)
      have HNO : Hid (lessS f.key hiB = false → belowR (L.take (j + 1)) = belowR (L.take j)) := Lib.hid (fun h => by rw [hf] at h; exact below_no hjL h)
      have HJL : Hid ((belowR (L.take j)).length ≤ n) := Lib.hid (by
        have h1 := belowR_len (L.take j)
        rw [List.length_take] at h1
        omega)
      obtain ⟨Ap, np, kp, hvp, hnp⟩ : ∃ A m k, u3 = .slice A m k ∧ m = (belowR (L.take j)).length := by
        obtain ⟨A, k, h, -, -⟩ := own_form HI.out.1
        exact ⟨A, _, k, h, rfl⟩
      subst hvp
      rw [← hnp] at HJL
      have HNP := Lib.hid hnp
      have hlp : (np + 1) * 32 ≤ 140737488355328 := by have := HJL.out; omega
      have x0 := HI.out.2.cell q0
      have x1 := HI.out.2.cell q1
      have u0 : (0 : Int) ≤ (j : Int) := by omega
      have u1 : (j : Int) < (n : Int) := by omega
      obtain ⟨y3, hy3⟩ : ∃ y, y = Go.Op.bytesLess f.key.toList [255, 255, 255, 255] := ⟨_, rfl⟩
      have HIN : Hid (lessS f.key hiB = y3) := Lib.hid (by rw [hy3]; unfold lessS; rw [hiB_list])
      have t3 := hy3.symm
      clear hf hnp hjL hy3 q0 q1
      rcases y3 with _ | _
      · have HR2 := Lib.hid (HNO.out HIN.out)
        go_wp2_with fail
        go_roundg (n - (j + 1))
        case measure => omega
        case rel => exact ⟨j + 1, by go_num, by omega, Nat.le_refl _, Lib.hid ⟨by rw [HR2.out]; exact HI.out.1, HI.out.2⟩⟩
      · have HR2 := Lib.hid (HY.out HIN.out)
        have HZ : Hid (w.heap.size ≤ (wr.alloc (.cells #[.string f.key, .string f.val] 66)).heap.size) := Lib.hid (Nat.le_trans HI.out.2.size (gr_box _ _).size)
        have HPV := Lib.hid (po_one wr f 0 (Nat.zero_le _)).pv
        have HP6 := Lib.hid (HI.out.1.gr (gr_box wr (.cells #[.string f.key, .string f.val] 66)))
        go_wp2_with (at_builtin; refine wpList_push_pr rfl (.tmp 17) (.tmp 22) rfl w.heap.size (.slice Ap np kp) (.slice (some ⟨wr.heap.size, 0, none⟩) 1 1) (belowR (L.take j)) [f] np 1 HNP.out rfl rfl HP6.out rfl HPV.out hlp HZ.out ?_; intro A8 k8 w8 hown8 hk8; have HO8 := Lib.hid hown8; have HK8 := Lib.hid hk8; clear hown8 hk8)
        go_roundg (n - (j + 1))
        case measure => omega
        case rel =>
          have hg6 := gr_box wr (.cells #[.string f.key, .string f.val] 66)
          exact ⟨j + 1, by go_num, by omega, Nat.le_refl _, Lib.hid ⟨by rw [HR2.out]; exact HO8.out, gr_of_grown (HI.out.2.trans hg6) HP6.out HK8.out (HI.out.2.trans hg6).size⟩⟩
    · have hjn : belowR (L.take j) = belowR L := by rw [List.take_of_length_le (by rw [← HN.out]; omega)]
      have HJ := Lib.hid hjn
      clear hjn
      go_wp2_with fail
      go_ret
      exact ⟨_, rfl, by rw [← HJ.out]; exact HI.out.1, HI.out.2⟩
end Go.Proofs.YtlnhbndghnkfmaaGreatDoor
namespace Go.Proofs.YtlnhbndghnkfmaaGreatDoor
open Go.RowKit

theorem modP_at {c : CR} {L : List PR} {j : Nat} (h : j < L.length) (p : Bool) : modP c (L.drop j) p = (if (!p && !lessS L[j].key c.key) then [pairK c] else []) ++ (if eqS L[j].key c.key then [] else [L[j]]) ++ modP c (L.drop (j + 1)) (p || !lessS L[j].key c.key) := by
  rw [List.drop_eq_getElem_cons h]
  rfl
theorem modP_end {c : CR} {L : List PR} {j : Nat} (h : ¬ j < L.length) (p : Bool) : modP c (L.drop j) p = if p then [] else [pairK c] := by
  rw [List.drop_of_length_le (by omega)]
  rfl
set_option maxRecDepth 100000 in
set_option maxHeartbeats 4000000 in
theorem model_any (v : Value) (L : List PR) (c : CR) (w : World) (hv : PV w v L) (hl : L.length ≤ 1000000000) :
    Calls Tryz.prog 67 #[v, .agg #[.string c.key, .string c.val, .bool c.gone]] w fun e w' => ∃ u, e = .returned u ∧ PO w' w.heap.size u (modP c L c.gone) ∧ Gr w w' := by
  obtain ⟨A, k, rfl, l1, ⟨l2, -⟩, l3⟩ := hv
  unfold maxLen at l2
  obtain ⟨n, hn⟩ : ∃ n, n = L.length := ⟨_, rfl⟩
  have HN := Lib.hid hn
  rw [← hn] at l1 hl ⊢
  have HP := Lib.hid l3
  obtain ⟨W, hW⟩ : ∃ W, W = w.alloc (.cells #[.string c.key, .string c.val, .bool c.gone] 70) := ⟨_, rfl⟩
  have HX : Hid (W.heap[w.heap.size]? = some (.cells #[.string c.key, .string c.val, .bool c.gone] 70 (0, 0))) := Lib.hid (by rw [hW]; exact heap_alloc_new w _)
  have HG : Hid (Gr w W) := Lib.hid (by rw [hW]; exact gr_box _ _)
  have e2 := obj_cell HX.out (i := 2) rfl
  have HZP : Hid (∀ w0 : World, PV (w0.alloc (.cells #[.string c.key, .string c.val] 66)) (.slice (some ⟨w0.heap.size, 0, none⟩) 1 1) [pairK c]) := Lib.hid (fun w0 => (po_one w0 (pairK c) 0 (Nat.zero_le _)).pv)
  clear l3 hn
  go_enter Tryz.func67, Tryz.ntmps67
  go_upto_region 1 with (fail)
  rw [← hW]
  clear hW
  go_wp2_with fail
  clear e2
  go_loopg [5, 6, 7] (n + 1) (fun kx s5 s6 s7 wr => ∃ (j : Nat) (p : Bool) (O : List PR), s6 = .bool p ∧ s7 = .int .i64 (j : Int) ∧ j ≤ n ∧ n - j ≤ kx ∧ Hid (PO wr W.heap.size s5 O ∧ Gr W wr ∧ O.length ≤ 2 * j ∧ modP c L c.gone = O ++ modP c (L.drop j) p))
  case atStart => exact ⟨0, c.gone, [], rfl, rfl, Nat.zero_le _, by omega, Lib.hid ⟨PO.nil _ _, Gr.refl _, Nat.zero_le _, rfl⟩⟩
  case round =>
    obtain ⟨j, p, O, rfl, rfl, hj, hkx, HI⟩ := hrel
    by_cases hlt : j < n
    · have hjL : j < L.length := by rw [← HN.out]; exact hlt
      obtain ⟨bb, off, rfl, q0, q1⟩ := HP.out j hjL
      have HMA := Lib.hid (modP_at (c := c) hjL p)
      obtain ⟨f, hf⟩ : ∃ f, f = L[j] := ⟨_, rfl⟩
      rw [← hf] at q0 q1 HMA
      obtain ⟨Ap, np, kp, hvp, hnp⟩ : ∃ A m k, u5 = .slice A m k ∧ m = O.length := by
        obtain ⟨A, k, h, -, -⟩ := own_form HI.out.1
        exact ⟨A, _, k, h, rfl⟩
      subst hvp
      have HNP := Lib.hid hnp
      have hlp : np ≤ 2 * j := by rw [hnp]; exact HI.out.2.2.1
      have HZ := Lib.hid (HG.out.trans HI.out.2.1)
      have x0 := HZ.out.cell q0
      have x1 := HZ.out.cell q1
      have b0 := obj_cell (gr_obj HI.out.2.1 HX.out) (i := 0) rfl
      have b1 := obj_cell (gr_obj HI.out.2.1 HX.out) (i := 1) rfl
      have u0 : (0 : Int) ≤ (j : Int) := by omega
      have u1 : (j : Int) < (n : Int) := by omega
      obtain ⟨y1, hy1⟩ : ∃ y, y = Go.Op.bytesLess f.key.toList c.key.toList := ⟨_, rfl⟩
      obtain ⟨y2, hy2⟩ : ∃ y, y = (f.key.toList == c.key.toList) := ⟨_, rfl⟩
      have t1 := hy1.symm
      have t2 := hy2.symm
      have HMB : Hid (modP c (L.drop j) p = (if (!p && !y1) then [pairK c] else []) ++ (if y2 then [] else [f]) ++ modP c (L.drop (j + 1)) (p || !y1)) := Lib.hid (by
        rw [HMA.out, hy1, hy2]
        rfl)
      have HQ := Lib.hid (And.intro q0 q1)
      clear hf hnp hjL hy1 hy2 q0 q1
      clear HMA
      go_upto_region 6 with (fail)
      go_cut [27] (fun s27 wx => s27 = .bool (!p && !y1) ∧ Hid (Gr wr wx))
      case first =>
        rcases p with _ | _
        all_goals
          rcases y1 with _ | _
          all_goals
            go_quiet (fail)
            go_wp2
            go_meet
            exact ⟨rfl, Lib.hid ((Gr.refl _).drewN _)⟩
      case rest =>
        obtain ⟨rfl, HW⟩ := hcut
        have HI1 : Hid (PO wc W.heap.size (.slice Ap np kp) O ∧ Gr W wc) := Lib.hid ⟨HI.out.1.gr HW.out, HI.out.2.1.trans HW.out⟩
        have HLE := Lib.hid HI.out.2.2.1
        have HEQ := Lib.hid HI.out.2.2.2
        clear x0 x1 b0 b1 t1 HZ HW HI
        have b0 := obj_cell (gr_obj HI1.out.2 HX.out) (i := 0) rfl
        have b1 := obj_cell (gr_obj HI1.out.2 HX.out) (i := 1) rfl
        go_upto_if 27 with (fail)
        go_cut [5, 6] (fun s5 s6 wx => ∃ O2 : List PR, s6 = .bool (p || !y1) ∧ Hid (PO wx W.heap.size s5 O2 ∧ Gr W wx ∧ O2 = O ++ (if (!p && !y1) then [pairK c] else [])))
        case first =>
          rcases p with _ | _
          · rcases y1 with _ | _
            · have HP6 := Lib.hid (HI1.out.1.gr (gr_box wc (.cells #[.string c.key, .string c.val] 66)))
              have HPV := Lib.hid (HZP.out wc)
              have hg6 := Lib.hid (HI1.out.2.trans (gr_box wc (.cells #[.string c.key, .string c.val] 66)))
              have hsz := Lib.hid hg6.out.size
              go_wp2_with (at_builtin; refine wpList_push_pr rfl (.tmp 28) (.tmp 34) rfl W.heap.size (.slice Ap np kp) (.slice (some ⟨wc.heap.size, 0, none⟩) 1 1) O [pairK c] np 1 HNP.out rfl rfl HP6.out rfl HPV.out (by omega) hsz.out ?_; intro A8 k8 w8 hown8 hk8; have HO8 := Lib.hid hown8; have HK8 := Lib.hid hk8; clear hown8 hk8)
              go_meet
              exact ⟨O ++ [pairK c], rfl, Lib.hid ⟨HO8.out, gr_of_grown hg6.out HP6.out HK8.out hg6.out.size, rfl⟩⟩
            · go_wp2_with fail
              go_meet
              exact ⟨O, rfl, Lib.hid ⟨HI1.out.1, HI1.out.2, by simp⟩⟩
          · rcases y1 with _ | _
            all_goals
              go_wp2_with fail
              go_meet
              exact ⟨O, rfl, Lib.hid ⟨HI1.out.1, HI1.out.2, by simp⟩⟩
        case rest =>
          obtain ⟨O2, rfl, HI2⟩ := hcut
          clear b0 b1
          obtain ⟨A2, n2, k2, hv2, hn2⟩ : ∃ A m k, u5 = .slice A m k ∧ m = O2.length := by
            obtain ⟨A, k, h, -, -⟩ := own_form HI2.out.1
            exact ⟨A, _, k, h, rfl⟩
          subst hv2
          have HN2 := Lib.hid hn2
          have hl2 : n2 ≤ 2 * j + 1 := by
            rw [hn2, HI2.out.2.2, List.length_append]
            have h1 := HLE.out
            have h2 : (if (!p && !y1) = true then [pairK c] else []).length ≤ 1 := by split <;> simp
            omega
          have HEQ2 : Hid (modP c L c.gone = O2 ++ ((if y2 then [] else [f]) ++ modP c (L.drop (j + 1)) (p || !y1))) := Lib.hid (by
            rw [HEQ.out, HMB.out, HI2.out.2.2]
            simp only [List.append_assoc])
          obtain ⟨p2, hp2⟩ : ∃ p2, p2 = (p || !y1) := ⟨_, rfl⟩
          rw [← hp2] at HEQ2 ⊢
          have HZ := Lib.hid (HG.out.trans HI2.out.2.1)
          have HI3 : Hid (PO wc W.heap.size (.slice A2 n2 k2) O2 ∧ Gr W wc) := Lib.hid ⟨HI2.out.1, HI2.out.2.1⟩
          obtain ⟨q0, q1⟩ := HQ.out
          have x0 := HZ.out.cell q0
          have x1 := HZ.out.cell q1
          have b0 := obj_cell (gr_obj HI3.out.2 HX.out) (i := 0) rfl
          clear hp2 hn2 q0 q1 HMB HI2
          go_upto_region 9 with (fail)
          go_cut [43] (fun s43 wx => s43 = .bool (!y2) ∧ Hid (Gr wc wx))
          case first =>
            rcases y2 with _ | _
            all_goals
              go_quiet (fail)
              go_wp2
              go_meet
              exact ⟨rfl, Lib.hid ((Gr.refl _).drewN _)⟩
          case rest =>
            obtain ⟨rfl, HW⟩ := hcut
            have y0 := HW.out.cell x0
            have y1' := HW.out.cell x1
            clear x0 x1 b0 t2
            go_upto_if 43 with (fail)
            rcases y2 with _ | _
            · have HP6 := Lib.hid ((HI3.out.1.gr HW.out).gr (gr_box wc (.cells #[.string f.key, .string f.val] 66)))
              have HPV := Lib.hid (po_one wc f 0 (Nat.zero_le _)).pv
              have hg6 := Lib.hid ((HI3.out.2.trans HW.out).trans (gr_box wc (.cells #[.string f.key, .string f.val] 66)))
              have hsz := Lib.hid hg6.out.size
              go_wp2_with (at_builtin; refine wpList_push_pr rfl (.tmp 44) (.tmp 49) rfl W.heap.size (.slice A2 n2 k2) (.slice (some ⟨wc.heap.size, 0, none⟩) 1 1) O2 [f] n2 1 HN2.out rfl rfl HP6.out rfl HPV.out (by omega) hsz.out ?_; intro A8 k8 w8 hown8 hk8; have HO8 := Lib.hid hown8; have HK8 := Lib.hid hk8; clear hown8 hk8)
              go_roundg (n - (j + 1))
              case measure => omega
              case rel => exact ⟨j + 1, p2, O2 ++ [f], by go_num, by go_num, by omega, Nat.le_refl _, Lib.hid ⟨HO8.out, gr_of_grown hg6.out HP6.out HK8.out hg6.out.size, by rw [List.length_append, ← HN2.out, List.length_singleton]; omega, by rw [HEQ2.out, List.append_assoc]; rfl⟩⟩
            · go_wp2_with fail
              go_roundg (n - (j + 1))
              case measure => omega
              case rel => exact ⟨j + 1, p2, O2, by go_num, by go_num, by omega, Nat.le_refl _, Lib.hid ⟨HI3.out.1.gr HW.out, HI3.out.2.trans HW.out, by rw [← HN2.out]; omega, by rw [HEQ2.out]; rfl⟩⟩
    · have HE := Lib.hid (modP_end (c := c) (show ¬ j < L.length by rw [← HN.out]; exact hlt) p)
      obtain ⟨Ap, np, kp, hvp, hnp⟩ : ∃ A m k, u5 = .slice A m k ∧ m = O.length := by
        obtain ⟨A, k, h, -, -⟩ := own_form HI.out.1
        exact ⟨A, _, k, h, rfl⟩
      subst hvp
      have HNP := Lib.hid hnp
      have hlp : np ≤ 2 * j := by rw [hnp]; exact HI.out.2.2.1
      have HZ := Lib.hid (HG.out.trans HI.out.2.1)
      have b0 := obj_cell (gr_obj HI.out.2.1 HX.out) (i := 0) rfl
      have b1 := obj_cell (gr_obj HI.out.2.1 HX.out) (i := 1) rfl
      have hge : ¬ ((j : Int) < (n : Int)) := by omega
      clear hnp
      rcases p with _ | _
      · have HP6 := Lib.hid (HI.out.1.gr (gr_box wr (.cells #[.string c.key, .string c.val] 66)))
        have HPV := Lib.hid (HZP.out wr)
        have hg6 := Lib.hid (HI.out.2.1.trans (gr_box wr (.cells #[.string c.key, .string c.val] 66)))
        have hsz := Lib.hid hg6.out.size
        go_wp2_with (at_builtin; refine wpList_push_pr rfl (.tmp 53) (.tmp 59) rfl W.heap.size (.slice Ap np kp) (.slice (some ⟨wr.heap.size, 0, none⟩) 1 1) O [pairK c] np 1 HNP.out rfl rfl HP6.out rfl HPV.out (by omega) hsz.out ?_; intro A8 k8 w8 hown8 hk8; have HO8 := Lib.hid hown8; have HK8 := Lib.hid hk8; clear hown8 hk8)
        go_ret
        exact ⟨_, rfl, by rw [HI.out.2.2.2, HE.out]; exact HO8.out.le HG.out.size, HG.out.trans (gr_of_grown hg6.out HP6.out HK8.out hg6.out.size)⟩
      · go_wp2_with fail
        go_ret
        exact ⟨_, rfl, by rw [HI.out.2.2.2, HE.out, if_pos trivial, List.append_nil]; exact HI.out.1.le HG.out.size, HZ.out⟩
end Go.Proofs.YtlnhbndghnkfmaaGreatDoor
namespace Go.Proofs.YtlnhbndghnkfmaaGreatDoor
open Go.RowKit

theorem liveP_len (A : List CR) : (liveP A).length ≤ A.length := by
  unfold liveP
  rw [List.length_map]
  exact List.length_filter_le _ _
theorem puts_take {A M : List CR} {j : Nat} (h : j < M.length) : puts A (M.take (j + 1)) = putC (puts A (M.take j)) M[j] := by
  rw [List.take_succ_eq_append_getElem h, puts_append]
  rfl
set_option maxRecDepth 100000 in
set_option maxHeartbeats 2000000 in
theorem models_any (v vm : Value) (A0 M : List CR) (w : World) (Bx : Nat) (hBx : Bx ≤ w.heap.size) (hv : PO w Bx v (liveP A0)) (hr : rising A0) (hm : CV w vm M) (hb : A0.length + M.length ≤ 1000000000) :
    Calls Tryz.prog 28 #[v, vm] w fun e w' => ∃ u, e = .returned u ∧ PO w' Bx u (liveP (puts A0 M)) ∧ Gr w w' := by
  have HBX := Lib.hid hBx
  obtain ⟨AM, km, rfl, l1, ⟨l2, -⟩, l3⟩ := hm
  unfold maxLen at l2
  obtain ⟨n, hn⟩ : ∃ n, n = M.length := ⟨_, rfl⟩
  have HN := Lib.hid hn
  rw [← hn] at l1 hb ⊢
  have HP := Lib.hid l3
  have HR := Lib.hid hr
  have HV := Lib.hid hv
  clear l3 hn hr hBx
  obtain ⟨Av, kv, rfl, -, -⟩ := own_form hv
  clear hv
  go_enter Tryz.func28, Tryz.ntmps28
  go_wp2_with fail
  go_loopg [0, 5] (n + 1) (fun kx s0 s5 wr => ∃ (j : Nat), s5 = .int .i64 (j : Int) ∧ j ≤ n ∧ n - j ≤ kx ∧ Hid (PO wr Bx s0 (liveP (puts A0 (M.take j))) ∧ Gr w wr))
  case atStart => exact ⟨0, rfl, Nat.zero_le _, by omega, Lib.hid ⟨HV.out, Gr.refl _⟩⟩
  case round =>
    obtain ⟨j, rfl, hj, hkx, HI⟩ := hrel
    by_cases hlt : j < n
    · have hjL : j < M.length := by rw [← HN.out]; exact hlt
      obtain ⟨bb, off, rfl, q0, q1, q2⟩ := HP.out j hjL
      have HT := Lib.hid (puts_take (A := A0) hjL)
      have HLN : Hid ((liveP (puts A0 (M.take j))).length ≤ 1000000000) := Lib.hid (by
        have h1 := liveP_len (puts A0 (M.take j))
        have h2 := puts_len A0 (M.take j)
        rw [List.length_take] at h2
        omega)
      obtain ⟨f, hf⟩ : ∃ f, f = M[j] := ⟨_, rfl⟩
      rw [← hf] at q0 q1 q2 HT
      have HMO : Hid (Calls Tryz.prog 67 #[u0, .agg #[.string f.key, .string f.val, .bool f.gone]] wr fun e w' => ∃ u, e = .returned u ∧ PO w' Bx u (liveP (puts A0 (M.take (j + 1)))) ∧ Gr wr w') := Lib.hid ((model_any u0 _ f wr HI.out.1.pv HLN.out).mono (fun e w' h => by
        obtain ⟨u, h1, h2, h3⟩ := h
        refine ⟨u, h1, ?_, h3⟩
        rw [HT.out, ← modP_held (puts_rising _ HR.out)]
        exact h2.le (Nat.le_trans HBX.out HI.out.2.size)))
      have x0 := HI.out.2.cell q0
      have x1 := HI.out.2.cell q1
      have x2 := HI.out.2.cell q2
      have t0 : (0 : Int) ≤ (j : Int) := by omega
      have t1 : (j : Int) < (n : Int) := by omega
      clear hf hjL q0 q1 q2 HLN HT
      go_wp2_with (go_at_call 67; with_reducible refine HMO.out.mono ?_; rintro e w4 ⟨u, rfl, hb4⟩; have HB4 := Lib.hid hb4; clear hb4)
      go_roundg (n - (j + 1))
      case measure => omega
      case rel => exact ⟨j + 1, by go_num, by omega, Nat.le_refl _, Lib.hid ⟨HB4.out.1, HI.out.2.trans HB4.out.2⟩⟩
    · have hjn : M.take j = M := List.take_of_length_le (by rw [← HN.out]; omega)
      have HJ := Lib.hid hjn
      have hge : ¬ ((j : Int) < (n : Int)) := by omega
      clear hjn
      go_wp2_with fail
      go_ret
      exact ⟨_, rfl, by have h := HI.out.1; rw [HJ.out] at h; exact h, HI.out.2⟩
end Go.Proofs.YtlnhbndghnkfmaaGreatDoor
