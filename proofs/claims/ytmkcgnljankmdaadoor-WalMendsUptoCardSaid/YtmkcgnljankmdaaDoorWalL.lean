/- Plain mathematics of logs: scanning beginnings and whole bytes; the segments behind operations. -/
import Derived.Test.YtmkcgnljankmdaaDoorWalG
import Derived.Test.YtmkcgnljankmdaaDoorFramePlain
namespace Go.Proofs.YtmkcgnljankmdaaDoor

theorem rdS_append {a : List UInt8} (h : 4 ≤ a.length) (r : List UInt8) : rdS (a ++ r) = rdS a := by
  match a, h with
  | x :: y :: z :: u :: a, _ => rfl
theorem first_append {a b : List UInt8} (r : List UInt8) (h : first a = some b) : first (a ++ r) = some b := by
  have hl := first_len h
  unfold first at h ⊢
  split at h
  · cases h
  rename_i h8
  split at h
  · cases h
  rename_i hn
  have e0 := rdS_append (show 4 ≤ a.length by omega) r
  have e4 : (a ++ r).drop 4 = a.drop 4 ++ r := List.drop_append_of_le_length (by omega)
  have e8 : (a ++ r).drop 8 = a.drop 8 ++ r := List.drop_append_of_le_length (by omega)
  have t4 : (a ++ r).take 4 = a.take 4 := List.take_append_of_le_length (by omega)
  have tn : (a.drop 8 ++ r).take (rdS a) = (a.drop 8).take (rdS a) := List.take_append_of_le_length (by rw [List.length_drop]; omega)
  have ed := rdS_append (a := a.drop 4) (by rw [List.length_drop]; omega) r
  rw [if_neg (by rw [List.length_append]; omega), e0, if_neg (by rw [List.length_append]; omega), e4, ed, t4, e8, tn]
  exact h
theorem first_take {l b : List UInt8} {k : Nat} (h : first l = some b) (hk : 8 + b.length ≤ k) : first (l.take k) = some b := by
  have hl := first_len h
  cases hf : first (l.take k) with
  | some c =>
    have := first_append (l.drop k) hf
    rw [List.take_append_drop, h] at this
    exact this.symm
  | none =>
    exfalso
    unfold first at h hf
    split at h
    · cases h
    split at h
    · cases h
    rename_i h8 hn
    split at h
    · rename_i hs
      injection h with h
      have hbn : b.length = rdS l := by rw [← h, List.length_take, List.length_drop]; omega
      have hkl : (l.take k).length = min k l.length := List.length_take
      have e0 : rdS (l.take k) = rdS l := by
        have := rdS_append (a := l.take k) (by omega) (l.drop k)
        rw [List.take_append_drop] at this
        exact this.symm
      have e4 : rdS ((l.take k).drop 4) = rdS (l.drop 4) := by
        have := rdS_append (a := (l.take k).drop 4) (by rw [List.length_drop]; omega) (l.drop k)
        rw [← List.drop_append_of_le_length (by omega), List.take_append_drop] at this
        exact this.symm
      have t4 : (l.take k).take 4 = l.take 4 := by rw [List.take_take]; congr 1; omega
      have t8 : ((l.take k).drop 8).take (rdS l) = (l.drop 8).take (rdS l) := by
        rw [List.drop_take, List.take_take]; congr 1; omega
      rw [if_neg (by omega), e0, if_neg (by omega), e4, t4, t8, if_pos hs] at hf
      cases hf
    · cases h
theorem scan_before (n : Nat) : ∀ a r : List UInt8, a.length ≤ n → scanAll a <+: scanAll (a ++ r) := by
  induction n with
  | zero =>
    intro a r h
    rw [scanAll_none (l := a) (by unfold first; rw [if_pos (by omega)])]
    exact List.nil_prefix
  | succ n ih =>
    intro a r h
    cases hf : first a with
    | none => rw [scanAll_none hf]; exact List.nil_prefix
    | some b =>
      have hl := first_len hf
      rw [scanAll_some hf, scanAll_some (first_append r hf), List.drop_append_of_le_length hl.1]
      exact (List.prefix_cons_inj b).2 (ih _ r (by rw [List.length_drop]; omega))
/-- A beginning tells a beginning. -/
theorem scan_prefix (l : List UInt8) (t : Nat) : scanAll (l.take t) <+: scanAll l := by
  have := scan_before (l.take t).length (l.take t) (l.drop t) (Nat.le_refl _)
  rw [List.take_append_drop] at this
  exact this
theorem scan_whole_n (n : Nat) : ∀ a r : List UInt8, a.length ≤ n → bytesOf (scanAll a) = a.length → scanAll (a ++ r) = scanAll a ++ scanAll r := by
  induction n with
  | zero =>
    intro a r h _
    obtain rfl := List.length_eq_zero_iff.1 (Nat.le_zero.1 h)
    rfl
  | succ n ih =>
    intro a r h hb
    cases hf : first a with
    | none =>
      rw [scanAll_none hf] at hb ⊢
      obtain rfl := List.length_eq_zero_iff.1 (hb.symm.trans rfl)
      rfl
    | some b =>
      have hl := first_len hf
      rw [scanAll_some hf] at hb ⊢
      simp only [bytesOf] at hb
      rw [scanAll_some (first_append r hf), List.drop_append_of_le_length hl.1, ih _ r (by rw [List.length_drop]; omega) (by rw [List.length_drop]; omega)]
      rfl
theorem scan_whole {a : List UInt8} (r : List UInt8) (h : bytesOf (scanAll a) = a.length) : scanAll (a ++ r) = scanAll a ++ scanAll r := scan_whole_n a.length a r (Nat.le_refl _) h
theorem scan_cut_n (n : Nat) : ∀ l : List UInt8, l.length ≤ n → scanAll (l.take (bytesOf (scanAll l))) = scanAll l := by
  induction n with
  | zero =>
    intro l h
    obtain rfl := List.length_eq_zero_iff.1 (Nat.le_zero.1 h)
    rfl
  | succ n ih =>
    intro l h
    cases hf : first l with
    | none => rw [scanAll_none hf]; rfl
    | some b =>
      have hl := first_len hf
      rw [scanAll_some hf]
      simp only [bytesOf]
      rw [scanAll_some (first_take hf (show 8 + b.length ≤ 8 + b.length + bytesOf (scanAll (l.drop (8 + b.length))) by omega)), List.drop_take, Nat.add_sub_cancel_left, ih _ (by rw [List.length_drop]; omega)]
/-- Cut behind its whole frames it tells the same, and is whole. -/
theorem scan_cut (l : List UInt8) : scanAll (l.take (bytesOf (scanAll l))) = scanAll l := scan_cut_n l.length l (Nat.le_refl _)
theorem scan_frame {b : List UInt8} (hb : b.length ≤ 65536) : scanAll (frameL b) = [b] := by
  have := scan_join [] [b] (fun x hx => by rw [List.mem_singleton.1 hx]; exact hb)
  simp only [joinL, List.append_nil] at this
  rw [this]
  rfl
theorem whole_frame {b : List UInt8} (hb : b.length ≤ 65536) : bytesOf (scanAll (frameL b)) = (frameL b).length := by
  rw [scan_frame hb, frameL_len]
  rfl

/-! one operation, as lookups tell it -/
def lk (L : List F) (nm : ByteArray) : Option F := L.find? fun f => eqS f.name nm
theorem lk_at (L : List F) (nm : ByteArray) : L[findF L nm]? = lk L nm := find?_bytes L nm
theorem lk_some {L : List F} {nm : ByteArray} {f : F} (h : lk L nm = some f) : ∃ hi : findF L nm < L.length, L[findF L nm] = f ∧ f.name = nm := by
  rw [← lk_at] at h
  obtain ⟨hi, he⟩ := List.getElem?_eq_some_iff.1 h
  exact ⟨hi, he, he ▸ findF_name hi⟩
theorem lk_none {L : List F} {nm : ByteArray} : lk L nm = none ↔ ∀ f ∈ L, f.name ≠ nm := by
  unfold lk
  rw [List.find?_eq_none]
  exact ⟨fun h f hf e => h f hf (eqS_iff.2 e), fun h f hf e => h f hf (eqS_iff.1 e)⟩
theorem segO_lk {L : List F} {p : ByteArray} {i : Nat} (hi : i < 1000000) : segO L p i = lk L (nameW p i) := if_pos hi
theorem segO_out {L : List F} {p : ByteArray} {i : Nat} (hi : ¬ i < 1000000) : segO L p i = none := if_neg hi
theorem lk_set_self {L : List F} {nm : ByteArray} {f g : F} (h : lk L nm = some f) (hg : g.name = nm) : lk (L.set (findF L nm) g) nm = some g := by
  obtain ⟨hi, _⟩ := lk_some h
  have : findF (L.set (findF L nm) g) nm = findF L nm := by
    refine findF_eq (by rw [List.length_set]; exact hi) (by rw [List.getElem_set_self]; exact hg) (fun j hj => ?_)
    rw [List.getElem_set_ne (by omega)]
    exact findF_before hj (by omega)
  rw [← lk_at, this, List.getElem?_set_self hi]
theorem lk_set_other {L : List F} {nm nm' : ByteArray} {f g : F} (h : lk L nm = some f) (hg : g.name = nm) (hne : nm ≠ nm') : lk (L.set (findF L nm) g) nm' = lk L nm' := by
  obtain ⟨hi, he, hn⟩ := lk_some h
  exact find_set (fun h2 => by rw [he, hn]; exact hne) (by rw [hg]; exact hne)
theorem names_set {L : List F} {nm : ByteArray} {f g : F} (h : lk L nm = some f) (hg : g.name = nm) : (L.set (findF L nm) g).map F.name = L.map F.name := by
  obtain ⟨hi, he, hn⟩ := lk_some h
  apply List.ext_getElem
  · simp
  · intro i h1 h2
    simp only [List.getElem_map, List.getElem_set]
    split
    · rename_i e
      subst e
      rw [he, hg, hn]
    · rfl
theorem step_some {L : List F} {o : O} {f : F} (hb : ¬ badOp o) (h : lk L o.name = some f) : step L o =
    (if o.kind = 1 then
      if 1048576 < f.size + o.bytes.size then (2, L)
      else (0, L.set (findF L o.name) ⟨f.name, f.kept, f.loose ++ o.bytes⟩)
    else if o.kind = 2 then (0, L.set (findF L o.name) ⟨f.name, f.kept ++ f.loose, ⟨#[]⟩⟩)
    else if o.kind = 3 then
      if o.at_ < 0 ∨ (f.size : Int) < o.at_ then (1, L)
      else (0, L.set (findF L o.name) ⟨f.name, (f.kept ++ f.loose).extract 0 o.at_.toNat, ⟨#[]⟩⟩)
    else (0, L.eraseIdx (findF L o.name))) := by
  unfold step
  rw [if_neg hb]
  unfold stepAt
  rw [lk_at, h]
theorem step_none {L : List F} {o : O} (hb : ¬ badOp o) (h : lk L o.name = none) : step L o =
    (if o.kind = 1 then
      if 64 ≤ L.length then (4, L)
      else if 1048576 < o.bytes.size then (2, L)
      else (0, L.insertIdx (placeF L o.name) ⟨o.name, ⟨#[]⟩, o.bytes⟩)
    else (30, L)) := by
  unfold step
  rw [if_neg hb]
  unfold stepAt
  rw [lk_at, h]
/-- What one operation on a file may do to the disk: the file of a name has become r. -/
structure Now (L L' : List F) (nm : ByteArray) (r : Option F) : Prop where
  here : lk L' nm = r
  there : ∀ nm', nm ≠ nm' → lk L' nm' = lk L nm'
theorem now_set {L : List F} {nm : ByteArray} {f g : F} (h : lk L nm = some f) (hg : g.name = nm) : Now L (L.set (findF L nm) g) nm (some g) := ⟨lk_set_self h hg, fun _ hne => lk_set_other h hg hne⟩
theorem nodup_at {α : Type} {l : List α} (h : l.Nodup) {i j : Nat} (hi : i < l.length) (hj : j < l.length) (e : l[i] = l[j]) : i = j := by
  have hp := List.pairwise_iff_getElem.1 h
  rcases Nat.lt_trichotomy i j with hlt | hlt | hlt
  · exact absurd e (hp _ _ _ _ hlt)
  · exact hlt
  · exact absurd e.symm (hp _ _ _ _ hlt)
theorem now_drop {L : List F} {nm : ByteArray} {f : F} (hd : (L.map F.name).Nodup) (h : lk L nm = some f) : Now L (L.eraseIdx (findF L nm)) nm none := by
  obtain ⟨hi, he, hn⟩ := lk_some h
  refine ⟨lk_none.2 fun g hg e => ?_, fun nm' hne => find_erase (fun h2 => by rw [he, hn]; exact hne)⟩
  obtain ⟨j, hj, hje, hjg⟩ := List.mem_eraseIdx_iff_getElem.1 hg
  have h1 : (L.map F.name)[j]'(by rw [List.length_map]; exact hj) = (L.map F.name)[findF L nm]'(by rw [List.length_map]; exact hi) := by
    simp only [List.getElem_map]
    rw [hjg, e, he, hn]
  exact hje (nodup_at hd _ _ h1)
theorem now_new {L : List F} {nm : ByteArray} {g : F} (h : lk L nm = none) (hg : g.name = nm) : Now L (L.insertIdx (placeF L nm) g) nm (some g) := by
  refine ⟨?_, fun nm' hne => find_insert (by rw [hg]; exact hne)⟩
  have hnone := lk_none.1 h
  unfold lk
  have : ∀ (L : List F) (i : Nat), i ≤ L.length → (∀ f ∈ L, f.name ≠ nm) → (L.insertIdx i g).find? (fun f => eqS f.name nm) = some g := by
    intro L
    induction L with
    | nil =>
      intro i hi _
      obtain rfl : i = 0 := by simpa using hi
      rw [List.insertIdx_zero, List.find?_cons, eqS_iff.2 hg]
    | cons x r ih =>
      intro i hi hx
      cases i with
      | zero => rw [List.insertIdx_zero, List.find?_cons, eqS_iff.2 hg]
      | succ i =>
        rw [List.insertIdx_succ_cons, List.find?_cons, eqS_ne (hx x List.mem_cons_self)]
        exact ih i (by simpa using hi) (fun f hf => hx f (List.mem_cons_of_mem _ hf))
  exact this L _ (placeF_le _ _) hnone
theorem nodup_insert {α : Type} {a : α} : ∀ (l : List α) (i : Nat), a ∉ l → l.Nodup → (l.insertIdx i a).Nodup
  | l, 0, ha, hn => by rw [List.insertIdx_zero]; exact List.nodup_cons.2 ⟨ha, hn⟩
  | [], i + 1, _, _ => by rw [List.insertIdx_succ_nil]; exact List.nodup_nil
  | x :: r, i + 1, ha, hn => by
    rw [List.insertIdx_succ_cons]
    rw [List.nodup_cons] at hn ⊢
    refine ⟨fun hx => ?_, nodup_insert r i (fun h => ha (List.mem_cons_of_mem _ h)) hn.2⟩
    rcases Nat.lt_or_ge r.length i with h | h
    · rw [List.insertIdx_of_length_lt h] at hx
      exact hn.1 hx
    · rcases (List.mem_insertIdx h).1 hx with e | e
      · exact ha (by rw [e]; exact List.mem_cons_self)
      · exact hn.1 e
theorem map_insert {α β : Type} (f : α → β) {a : α} : ∀ (l : List α) (i : Nat), (l.insertIdx i a).map f = (l.map f).insertIdx i (f a)
  | l, 0 => by rw [List.insertIdx_zero, List.insertIdx_zero, List.map_cons]
  | [], i + 1 => rfl
  | x :: r, i + 1 => by rw [List.insertIdx_succ_cons, List.map_cons, List.map_cons, List.insertIdx_succ_cons, map_insert f r i]
theorem names_new {L : List F} {nm : ByteArray} {g : F} {i : Nat} (h : lk L nm = none) (hg : g.name = nm) (hd : (L.map F.name).Nodup) : ((L.insertIdx i g).map F.name).Nodup := by
  rw [map_insert]
  refine nodup_insert _ _ (fun hm => ?_) hd
  obtain ⟨f, hf, hfe⟩ := List.mem_map.1 hm
  exact lk_none.1 h f hf (hfe.trans hg)
theorem names_drop {L : List F} {i : Nat} (hd : (L.map F.name).Nodup) : ((L.eraseIdx i).map F.name).Nodup := by
  have : ((L.eraseIdx i).map F.name).Sublist (L.map F.name) := (List.eraseIdx_sublist L i).map _
  exact List.Pairwise.sublist this hd
end Go.Proofs.YtmkcgnljankmdaaDoor
