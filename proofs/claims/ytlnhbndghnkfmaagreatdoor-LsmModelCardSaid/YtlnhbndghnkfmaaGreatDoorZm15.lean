/- Plain mathematics of logs: scanning beginnings and whole bytes; the segments behind operations. -/
import Derived.Test.YtlnhbndghnkfmaaGreatDoorZm14
import Derived.Test.YtlnhbndghnkfmaaGreatDoorZm07
import Derived.Test.YtlnhbndghnkfmaaGreatDoorZm04
namespace Go.Proofs.YtlnhbndghnkfmaaGreatDoor

theorem rdS_append {a : List UInt8} (h : 4 ≤ a.length) (r : List UInt8) : rdS (a ++ r) = rdS a := by
  match a, h with
  | x :: y :: z :: u :: a, _ => rfl
theorem first_append {a b : List UInt8} (r : List UInt8) (h : first a = some b) : first (a ++ r) = some b := by
  have hl := first_len h
  unfold first at h ⊢
  split at h
  · cases h
  rename_i h8
  split at h
  · cases h
  rename_i hn
  have e0 := rdS_append (show 4 ≤ a.length by omega) r
  have e4 : (a ++ r).drop 4 = a.drop 4 ++ r := List.drop_append_of_le_length (by omega)
  have e8 : (a ++ r).drop 8 = a.drop 8 ++ r := List.drop_append_of_le_length (by omega)
  have t4 : (a ++ r).take 4 = a.take 4 := List.take_append_of_le_length (by omega)
  have tn : (a.drop 8 ++ r).take (rdS a) = (a.drop 8).take (rdS a) := List.take_append_of_le_length (by rw [List.length_drop]; omega)
  have ed := rdS_append (a := a.drop 4) (by rw [List.length_drop]; omega) r
  rw [if_neg (by rw [List.length_append]; omega), e0, if_neg (by rw [List.length_append]; omega), e4, ed, t4, e8, tn]
  exact h
theorem scan_before (n : Nat) : ∀ a r : List UInt8, a.length ≤ n → scanAll a <+: scanAll (a ++ r) := by
  induction n with
  | zero =>
    intro a r h
    rw [scanAll_none (l := a) (by unfold first; rw [if_pos (by omega)])]
    exact List.nil_prefix
  | succ n ih =>
    intro a r h
    cases hf : first a with
    | none => rw [scanAll_none hf]; exact List.nil_prefix
    | some b =>
      have hl := first_len hf
      rw [scanAll_some hf, scanAll_some (first_append r hf), List.drop_append_of_le_length hl.1]
      exact (List.prefix_cons_inj b).2 (ih _ r (by rw [List.length_drop]; omega))
/-- A beginning tells a beginning. -/
theorem scan_prefix (l : List UInt8) (t : Nat) : scanAll (l.take t) <+: scanAll l := by
  have := scan_before (l.take t).length (l.take t) (l.drop t) (Nat.le_refl _)
  rw [List.take_append_drop] at this
  exact this
theorem scan_whole_n (n : Nat) : ∀ a r : List UInt8, a.length ≤ n → bytesOf (scanAll a) = a.length → scanAll (a ++ r) = scanAll a ++ scanAll r := by
  induction n with
  | zero =>
    intro a r h _
    obtain rfl := List.length_eq_zero_iff.1 (Nat.le_zero.1 h)
    rfl
  | succ n ih =>
    intro a r h hb
    cases hf : first a with
    | none =>
      rw [scanAll_none hf] at hb ⊢
      obtain rfl := List.length_eq_zero_iff.1 (hb.symm.trans rfl)
      rfl
    | some b =>
      have hl := first_len hf
      rw [scanAll_some hf] at hb ⊢
      simp only [bytesOf] at hb
      rw [scanAll_some (first_append r hf), List.drop_append_of_le_length hl.1, ih _ r (by rw [List.length_drop]; omega) (by rw [List.length_drop]; omega)]
      rfl
theorem scan_whole {a : List UInt8} (r : List UInt8) (h : bytesOf (scanAll a) = a.length) : scanAll (a ++ r) = scanAll a ++ scanAll r := scan_whole_n a.length a r (Nat.le_refl _) h
theorem scan_frame {b : List UInt8} (hb : b.length ≤ 65536) : scanAll (frameL b) = [b] := by
  have := scan_join [] [b] (fun x hx => by rw [List.mem_singleton.1 hx]; exact hb)
  simp only [joinL, List.append_nil] at this
  rw [this]
  rfl
def lk (L : List F) (nm : ByteArray) : Option F := L.find? fun f => eqS f.name nm
theorem lk_at (L : List F) (nm : ByteArray) : L[findF L nm]? = lk L nm := find?_bytes L nm
theorem lk_some {L : List F} {nm : ByteArray} {f : F} (h : lk L nm = some f) : ∃ hi : findF L nm < L.length, L[findF L nm] = f ∧ f.name = nm := by
  rw [← lk_at] at h
  obtain ⟨hi, he⟩ := List.getElem?_eq_some_iff.1 h
  exact ⟨hi, he, he ▸ findF_name hi⟩
theorem lk_none {L : List F} {nm : ByteArray} : lk L nm = none ↔ ∀ f ∈ L, f.name ≠ nm := by
  unfold lk
  rw [List.find?_eq_none]
  exact ⟨fun h f hf e => h f hf (eqS_iff.2 e), fun h f hf e => h f hf (eqS_iff.1 e)⟩
theorem segO_lk {L : List F} {p : ByteArray} {i : Nat} (hi : i < 1000000) : segO L p i = lk L (nameW p i) := if_pos hi
theorem segO_out {L : List F} {p : ByteArray} {i : Nat} (hi : ¬ i < 1000000) : segO L p i = none := if_neg hi
theorem lk_set_self {L : List F} {nm : ByteArray} {f g : F} (h : lk L nm = some f) (hg : g.name = nm) : lk (L.set (findF L nm) g) nm = some g := by
  obtain ⟨hi, _⟩ := lk_some h
  have : findF (L.set (findF L nm) g) nm = findF L nm := by
    refine findF_eq (by rw [List.length_set]; exact hi) (by rw [List.getElem_set_self]; exact hg) (fun j hj => ?_)
    rw [List.getElem_set_ne (by omega)]
    exact findF_before hj (by omega)
  rw [← lk_at, this, List.getElem?_set_self hi]
theorem lk_set_other {L : List F} {nm nm' : ByteArray} {f g : F} (h : lk L nm = some f) (hg : g.name = nm) (hne : nm ≠ nm') : lk (L.set (findF L nm) g) nm' = lk L nm' := by
  obtain ⟨hi, he, hn⟩ := lk_some h
  exact find_set (fun h2 => by rw [he, hn]; exact hne) (by rw [hg]; exact hne)
theorem names_set {L : List F} {nm : ByteArray} {f g : F} (h : lk L nm = some f) (hg : g.name = nm) : (L.set (findF L nm) g).map F.name = L.map F.name := by
  obtain ⟨hi, he, hn⟩ := lk_some h
  apply List.ext_getElem
  · simp
  · intro i h1 h2
    simp only [List.getElem_map, List.getElem_set]
    split
    · rename_i e
      subst e
      rw [he, hg, hn]
    · rfl
theorem step_some {L : List F} {o : O} {f : F} (hb : ¬ badOp o) (h : lk L o.name = some f) : step L o =
    (if o.kind = 1 then
      if 1048576 < f.size + o.bytes.size then (2, L)
      else (0, L.set (findF L o.name) ⟨f.name, f.kept, f.loose ++ o.bytes⟩)
    else if o.kind = 2 then (0, L.set (findF L o.name) ⟨f.name, f.kept ++ f.loose, ⟨#[]⟩⟩)
    else if o.kind = 3 then
      if o.at_ < 0 ∨ (f.size : Int) < o.at_ then (1, L)
      else (0, L.set (findF L o.name) ⟨f.name, (f.kept ++ f.loose).extract 0 o.at_.toNat, ⟨#[]⟩⟩)
    else (0, L.eraseIdx (findF L o.name))) := by
  unfold step
  rw [if_neg hb]
  unfold stepAt
  rw [lk_at, h]
theorem step_none {L : List F} {o : O} (hb : ¬ badOp o) (h : lk L o.name = none) : step L o =
    (if o.kind = 1 then
      if 64 ≤ L.length then (4, L)
      else if 1048576 < o.bytes.size then (2, L)
      else (0, L.insertIdx (placeF L o.name) ⟨o.name, ⟨#[]⟩, o.bytes⟩)
    else (30, L)) := by
  unfold step
  rw [if_neg hb]
  unfold stepAt
  rw [lk_at, h]
/-- What one operation on a file may do to the disk: the file of a name has become r. -/
structure Now (L L' : List F) (nm : ByteArray) (r : Option F) : Prop where
  here : lk L' nm = r
  there : ∀ nm', nm ≠ nm' → lk L' nm' = lk L nm'
theorem now_set {L : List F} {nm : ByteArray} {f g : F} (h : lk L nm = some f) (hg : g.name = nm) : Now L (L.set (findF L nm) g) nm (some g) := ⟨lk_set_self h hg, fun _ hne => lk_set_other h hg hne⟩
theorem now_new {L : List F} {nm : ByteArray} {g : F} (h : lk L nm = none) (hg : g.name = nm) : Now L (L.insertIdx (placeF L nm) g) nm (some g) := by
  refine ⟨?_, fun nm' hne => find_insert (by rw [hg]; exact hne)⟩
  have hnone := lk_none.1 h
  unfold lk
  have : ∀ (L : List F) (i : Nat), i ≤ L.length → (∀ f ∈ L, f.name ≠ nm) → (L.insertIdx i g).find? (fun f => eqS f.name nm) = some g := by
    intro L
    induction L with
    | nil =>
      intro i hi _
      obtain rfl : i = 0 := by simpa using hi
      rw [List.insertIdx_zero, List.find?_cons, eqS_iff.2 hg]
    | cons x r ih =>
      intro i hi hx
      cases i with
      | zero => rw [List.insertIdx_zero, List.find?_cons, eqS_iff.2 hg]
      | succ i =>
        rw [List.insertIdx_succ_cons, List.find?_cons, eqS_ne (hx x List.mem_cons_self)]
        exact ih i (by simpa using hi) (fun f hf => hx f (List.mem_cons_of_mem _ hf))
  exact this L _ (placeF_le _ _) hnone
theorem nodup_insert {α : Type} {a : α} : ∀ (l : List α) (i : Nat), a ∉ l → l.Nodup → (l.insertIdx i a).Nodup
  | l, 0, ha, hn => by rw [List.insertIdx_zero]; exact List.nodup_cons.2 ⟨ha, hn⟩
  | [], i + 1, _, _ => by rw [List.insertIdx_succ_nil]; exact List.nodup_nil
  | x :: r, i + 1, ha, hn => by
    rw [List.insertIdx_succ_cons]
    rw [List.nodup_cons] at hn ⊢
    refine ⟨fun hx => ?_, nodup_insert r i (fun h => ha (List.mem_cons_of_mem _ h)) hn.2⟩
    rcases Nat.lt_or_ge r.length i with h | h
    · rw [List.insertIdx_of_length_lt h] at hx
      exact hn.1 hx
    · rcases (List.mem_insertIdx h).1 hx with e | e
      · exact ha (by rw [e]; exact List.mem_cons_self)
      · exact hn.1 e
theorem map_insert {α β : Type} (f : α → β) {a : α} : ∀ (l : List α) (i : Nat), (l.insertIdx i a).map f = (l.map f).insertIdx i (f a)
  | l, 0 => by rw [List.insertIdx_zero, List.insertIdx_zero, List.map_cons]
  | [], i + 1 => rfl
  | x :: r, i + 1 => by rw [List.insertIdx_succ_cons, List.map_cons, List.map_cons, List.insertIdx_succ_cons, map_insert f r i]
theorem names_new {L : List F} {nm : ByteArray} {g : F} {i : Nat} (h : lk L nm = none) (hg : g.name = nm) (hd : (L.map F.name).Nodup) : ((L.insertIdx i g).map F.name).Nodup := by
  rw [map_insert]
  refine nodup_insert _ _ (fun hm => ?_) hd
  obtain ⟨f, hf, hfe⟩ := List.mem_map.1 hm
  exact lk_none.1 h f hf (hfe.trans hg)
theorem names_drop {L : List F} {i : Nat} (hd : (L.map F.name).Nodup) : ((L.eraseIdx i).map F.name).Nodup := by
  have : ((L.eraseIdx i).map F.name).Sublist (L.map F.name) := (List.eraseIdx_sublist L i).map _
  exact List.Pairwise.sublist this hd
end Go.Proofs.YtlnhbndghnkfmaaGreatDoor
namespace Go.Proofs.YtlnhbndghnkfmaaGreatDoor

theorem nbN_low {c : Nat} (h : lowB c = true) : nbN c = true := by
  have := lowB_yes h
  unfold nbN
  rw [decide_eq_true_iff]
  omega
theorem nbN_dig {c : UInt8} (h : isDig c = true) : nbN c.toNat = true := by
  unfold isDig at h
  have := of_decide_eq_true h
  unfold nbN
  rw [decide_eq_true_iff]
  omega
theorem nameOk_seg {p : ByteArray} (hp : prefixB p = true) (i : Nat) : nameOk (nameW p i) = true := by
  have hs := prefix_size hp
  rw [nameOk_size, nameW_size, nameW_list, decide_eq_true (by omega), Bool.true_and, List.all_append, List.all_cons]
  unfold prefixB at hp
  rw [Bool.and_eq_true] at hp
  have h1 : (p.data.toList.all fun c => nbN c.toNat) = true := by
    rw [List.all_eq_true]
    intro c hc
    exact nbN_low (List.all_eq_true.1 hp.2 c hc)
  have h2 : ((dig6 i).all fun c => nbN c.toNat) = true := by
    rw [List.all_eq_true]
    intro c hc
    exact nbN_dig (List.all_eq_true.1 (dig6_all i) c hc)
  rw [h1, h2]
  rfl
theorem good_sync {p : ByteArray} (hp : prefixB p = true) (i : Nat) : ¬ badOp (syncO p i) := by
  rintro (h | h | h)
  · exact absurd h (show ¬ ((2 : Int) < 1) by decide)
  · exact absurd h (show ¬ ((4 : Int) < 2) by decide)
  · rw [show nameOk (syncO p i).name = true from nameOk_seg hp i] at h; cases h
theorem good_write {p : ByteArray} (hp : prefixB p = true) (i : Nat) (fr : ByteArray) : ¬ badOp (writeO p i fr) := by
  rintro (h | h | h)
  · exact absurd h (show ¬ ((1 : Int) < 1) by decide)
  · exact absurd h (show ¬ ((4 : Int) < 1) by decide)
  · rw [show nameOk (writeO p i fr).name = true from nameOk_seg hp i] at h; cases h
def Dist (L : List F) : Prop := (L.map F.name).Nodup
/-- All segments from a on, below t, are gone. -/
structure Gone (L L' : List F) (p : ByteArray) (a t : Nat) : Prop where
  gone : ∀ i, a ≤ i → i < t → lk L' (nameW p i) = none
  keep : ∀ nm, (∀ i, a ≤ i → i < t → nm ≠ nameW p i) → lk L' nm = lk L nm
  nd : Dist L'
  sub : ∀ f ∈ L', f ∈ L
  len : L'.length ≤ L.length
/-- These are the log's segments. -/
structure IsLog (L : List F) (p : ByteArray) (X : List F) : Prop where
  at_ : ∀ i (hi : i < X.length), segO L p i = some X[i]
  out : segO L p X.length = none
theorem IsLog.segs {L : List F} {p : ByteArray} {X : List F} (h : IsLog L p X) : segL L p = X ∧ segN L p = X.length := by
  have hn : segN L p = X.length := segN_eq ⟨fun i hi => by rw [h.at_ i hi]; exact Option.some_ne_none _, h.out⟩
  refine ⟨?_, hn⟩
  apply List.ext_getElem
  · rw [segL_len, hn]
  · intro i h1 h2
    have := segL_at h1
    rw [h.at_ i h2] at this
    injection this with this
    exact this.symm
theorem IsLog.few {L : List F} {p : ByteArray} {X : List F} (h : IsLog L p X) : X.length ≤ 1000000 ∧ X.length ≤ L.length := by
  have := (segN_is L p).le
  rw [h.segs.2] at this
  exact ⟨this.2, this.1⟩
theorem open_whole {p : ByteArray} {m : Nat} : ∀ (r : List F) (i : Nat), (∀ f ∈ r, ¬ tornF f) → openS p m i r = (r.flatMap recsF, [])
  | [], _, _ => rfl
  | f :: r, i, h => by
    rw [openS_whole (h f List.mem_cons_self), open_whole r (i + 1) (fun g hg => h g (List.mem_cons_of_mem _ hg)), List.flatMap_cons]
theorem open_cases {p : ByteArray} {m : Nat} : ∀ (r : List F) (i : Nat), (∀ f ∈ r, ¬ tornF f) ∨ ∃ (j : Nat) (hj : j < r.length), (∀ f ∈ r.take j, ¬ tornF f) ∧ tornF r[j] ∧ openS p m i r = ((r.take j).flatMap recsF ++ recsF r[j], dropsO p (i + j + 1) m ++ [cutO p (i + j) (bytesOf (recsF r[j]))])
  | [], _ => .inl (fun f hf => by cases hf)
  | f :: r, i => by
    by_cases ht : tornF f
    · refine .inr ⟨0, Nat.zero_lt_succ _, (fun g hg => by cases hg), ht, ?_⟩
      rw [openS_torn ht]
      rfl
    · rcases open_cases (p := p) (m := m) r (i + 1) with h | ⟨j, hj, h1, h2, h3⟩
      · refine .inl (fun g hg => ?_)
        rcases List.mem_cons.1 hg with rfl | hg
        · exact ht
        · exact h g hg
      · refine .inr ⟨j + 1, Nat.succ_lt_succ hj, fun g hg => ?_, h2, ?_⟩
        · rw [List.take_succ_cons] at hg
          rcases List.mem_cons.1 hg with rfl | hg
          · exact ht
          · exact h1 g hg
        · rw [openS_whole ht, h3, List.take_succ_cons, List.flatMap_cons, List.append_assoc, show i + 1 + j = i + (j + 1) by omega]
          rfl
end Go.Proofs.YtlnhbndghnkfmaaGreatDoor
namespace Go.Proofs.YtlnhbndghnkfmaaGreatDoor

/-- The segments behind a record more. -/
inductive Grown (p fr : ByteArray) : List F → List F → Prop
  | first : Grown p fr [] [⟨nameW p 0, ⟨#[]⟩, fr⟩]
  | fits (Y : List F) (f : F) : fitsB f fr.size = true → Grown p fr (Y ++ [f]) (Y ++ [⟨f.name, f.kept, f.loose ++ fr⟩])
  | next (Y : List F) (f : F) : Grown p fr (Y ++ [f]) (Y ++ [⟨f.name, f.kept ++ f.loose, ⟨#[]⟩⟩, ⟨nameW p (Y.length + 1), ⟨#[]⟩, fr⟩])
/-- What one operation may do to the whole disk. -/
structure Fine (L L' : List F) : Prop where
  nd : Dist L → Dist L'
  size : (∀ f ∈ L, f.size ≤ 1048576) → ∀ f ∈ L', f.size ≤ 1048576
  len : L'.length ≤ max L.length 64
theorem Fine.trans {a b c : List F} (h : Fine a b) (k : Fine b c) : Fine a c :=
  ⟨fun hd => k.nd (h.nd hd), fun hs => k.size (h.size hs), by have := h.len; have := k.len; omega⟩
theorem append_len (x y : ByteArray) : (x ++ y).size = x.size + y.size := ByteArray.size_append
theorem step_write_old {L : List F} {p fr : ByteArray} {i : Nat} {f : F} (hp : prefixB p = true) (h : lk L (nameW p i) = some f) (hs : f.size + fr.size ≤ 1048576) :
    ∃ L', step L (writeO p i fr) = (0, L') ∧ Now L L' (nameW p i) (some ⟨f.name, f.kept, f.loose ++ fr⟩) ∧ Fine L L' := by
  have hst := step_some (good_write hp i fr) h
  have e0 : (writeO p i fr).kind = 1 := rfl
  rw [e0, if_pos rfl, if_neg (show ¬ 1048576 < f.size + (writeO p i fr).bytes.size by show ¬ 1048576 < f.size + fr.size; omega)] at hst
  obtain ⟨hi, he, hn⟩ := lk_some h
  refine ⟨_, hst, now_set h hn, ⟨fun hd => ?_, fun hb g hg => ?_, ?_⟩⟩
  · unfold Dist
    rw [show (writeO p i fr).name = nameW p i from rfl, names_set (g := ⟨f.name, f.kept, f.loose ++ (writeO p i fr).bytes⟩) h hn]
    exact hd
  · rcases List.mem_or_eq_of_mem_set hg with h1 | h1
    · exact hb g h1
    · rw [h1]
      unfold F.size at hs ⊢
      show f.kept.size + (f.loose ++ fr).size ≤ _
      rw [append_len]
      omega
  · rw [List.length_set]
    omega
theorem step_write_new {L : List F} {p fr : ByteArray} {i : Nat} (hp : prefixB p = true) (h : lk L (nameW p i) = none) (hs : fr.size ≤ 1048576) :
    (step L (writeO p i fr)).1 = 4 ∨ ∃ L', step L (writeO p i fr) = (0, L') ∧ Now L L' (nameW p i) (some ⟨nameW p i, ⟨#[]⟩, fr⟩) ∧ Fine L L' := by
  have hst := step_none (good_write hp i fr) h
  have e0 : (writeO p i fr).kind = 1 := rfl
  rw [e0, if_pos rfl] at hst
  by_cases h64 : 64 ≤ L.length
  · rw [if_pos h64] at hst
    exact .inl (by rw [hst])
  · rw [if_neg h64, if_neg (show ¬ 1048576 < (writeO p i fr).bytes.size by show ¬ 1048576 < fr.size; omega)] at hst
    refine .inr ⟨_, hst, now_new h rfl, ⟨fun hd => names_new h rfl hd, fun hb g hg => ?_, ?_⟩⟩
    · rcases (List.mem_insertIdx (placeF_le _ _)).1 hg with h1 | h1
      · rw [h1]
        unfold F.size
        show 0 + fr.size ≤ _
        omega
      · exact hb g h1
    · rw [List.length_insertIdx]
      split <;> omega
theorem step_syncO {L : List F} {p : ByteArray} {i : Nat} {f : F} (hp : prefixB p = true) (h : lk L (nameW p i) = some f) :
    ∃ L', step L (syncO p i) = (0, L') ∧ Now L L' (nameW p i) (some ⟨f.name, f.kept ++ f.loose, ⟨#[]⟩⟩) ∧ Fine L L' := by
  have hst := step_some (good_sync hp i) h
  have e0 : (syncO p i).kind = 2 := rfl
  rw [e0, if_neg (by decide), if_pos rfl] at hst
  obtain ⟨hi, he, hn⟩ := lk_some h
  refine ⟨_, hst, now_set h hn, ⟨fun hd => ?_, fun hb g hg => ?_, ?_⟩⟩
  · unfold Dist
    rw [show (syncO p i).name = nameW p i from rfl, names_set (g := ⟨f.name, f.kept ++ f.loose, ⟨#[]⟩⟩) h hn]
    exact hd
  · rcases List.mem_or_eq_of_mem_set hg with h1 | h1
    · exact hb g h1
    · rw [h1]
      have := hb f (he ▸ List.getElem_mem hi)
      unfold F.size at this ⊢
      show (f.kept ++ f.loose).size + 0 ≤ _
      rw [append_len]
      omega
  · rw [List.length_set]
    omega
theorem fitsB_size {f : F} {fr : ByteArray} (h : fitsB f fr.size = true) (hr : fr.size ≤ 65544) : f.size + fr.size ≤ 1048576 := by
  unfold fitsB at h
  have := of_decide_eq_true h
  omega
/-- One file of a log is another one now. -/
theorem IsLog.put {L L' : List F} {p : ByteArray} {Y : List F} {f g : F} (h : IsLog L p (Y ++ [f])) (hn : Now L L' (nameW p Y.length) (some g)) : IsLog L' p (Y ++ [g]) := by
  have hl : ∀ x : F, (Y ++ [x]).length = Y.length + 1 := fun x => by rw [List.length_append, List.length_singleton]
  have hfew := h.few.1
  rw [hl] at hfew
  refine ⟨fun i hi => ?_, ?_⟩
  · rw [hl] at hi
    rcases Nat.lt_or_ge i Y.length with e | e
    · have := h.at_ i (by rw [hl]; omega)
      rw [List.getElem_append_left e] at this ⊢
      rw [← this, segO_lk (by omega), segO_lk (by omega)]
      exact hn.there _ (fun e2 => by have := nameW_inj (by omega) (by omega) e2; omega)
    · obtain rfl : i = Y.length := by omega
      rw [List.getElem_append_right (Nat.le_refl _), segO_lk (by omega)]
      simp only [Nat.sub_self, List.getElem_cons_zero]
      exact hn.here
  · have := h.out
    rw [hl] at this ⊢
    rw [← this]
    rcases Nat.lt_or_ge (Y.length + 1) 1000000 with e | e
    · rw [segO_lk e, segO_lk e]
      exact hn.there _ (fun e2 => by have := nameW_inj (by omega) e e2; omega)
    · rw [segO_out (by omega), segO_out (by omega)]
/-- A file more at the log's end. -/
theorem IsLog.more {L L' : List F} {p : ByteArray} {Y : List F} {g : F} (h : IsLog L p Y) (hy : Y.length < 1000000) (hgap : segO L p (Y.length + 1) = none) (hn : Now L L' (nameW p Y.length) (some g)) : IsLog L' p (Y ++ [g]) := by
  have hl : (Y ++ [g]).length = Y.length + 1 := by rw [List.length_append, List.length_singleton]
  refine ⟨fun i hi => ?_, ?_⟩
  · rw [hl] at hi
    rcases Nat.lt_or_ge i Y.length with e | e
    · have := h.at_ i e
      rw [List.getElem_append_left e, ← this, segO_lk (by omega), segO_lk (by omega)]
      exact hn.there _ (fun e2 => by have := nameW_inj (by omega) (by omega) e2; omega)
    · obtain rfl : i = Y.length := by omega
      rw [List.getElem_append_right (Nat.le_refl _), segO_lk (by omega)]
      simp only [Nat.sub_self, List.getElem_cons_zero]
      exact hn.here
  · rw [hl]
    rcases Nat.lt_or_ge (Y.length + 1) 1000000 with e | e
    · rw [segO_lk e] at hgap ⊢
      rw [hn.there _ (fun e2 => by have := nameW_inj (by omega) e e2; omega)]
      exact hgap
    · exact segO_out (by omega)
theorem now_gap {L L' : List F} {p : ByteArray} {i j : Nat} {r : Option F} (hn : Now L L' (nameW p i) r) (hi : i < 1000000) (hij : i ≠ j) : segO L' p j = segO L p j := by
  rcases Nat.lt_or_ge j 1000000 with e | e
  · rw [segO_lk e, segO_lk e]
    exact hn.there _ (fun e2 => hij (nameW_inj hi e e2))
  · rw [segO_out (by omega), segO_out (by omega)]
theorem run_one {L L' : List F} {o : O} (h : step L o = (0, L')) : run L [o] = (L', 1, 0) := by
  rw [run_ok (by rw [h]), h]
  rfl
theorem run_err {L : List F} {o : O} (h : (step L o).1 = 4) : (run L [o]).2.2 = 4 := by
  rw [run_no (by rw [h]; decide), h]
/-- A record more: what the plan does, if it can be done. -/
theorem grow {L : List F} {p record : ByteArray} {X : List F} (hp : prefixB p = true) (h : IsLog L p X) (hgap : ∀ j, X.length < j → segO L p j = none) (hr : record.size ≤ 65536) :
    ((appendPlan L p record).2 = 4 ∧ X.length = 1000000) ∨ (appendPlan L p record).2 = 0 ∧ ((run L (appendPlan L p record).1).2.2 = 4 ∨
      ∃ L' X', run L (appendPlan L p record).1 = (L', (appendPlan L p record).1.length, 0) ∧ IsLog L' p X' ∧ Grown p (frameB record) X X' ∧ Fine L L' ∧ ∀ j, X'.length < j → segO L' p j = none) := by
  have hz := frameB_size record
  obtain ⟨fr, hfr⟩ : ∃ fr, fr = frameB record := ⟨_, rfl⟩
  have hn := h.segs.2
  have hfew := h.few.1
  have hpl : appendPlan L p record = if segN L p = 0 then ([writeO p 0 fr], 0)
      else if fitsB (lastF L p) fr.size = true then ([writeO p (segN L p - 1) fr], 0)
      else if segN L p = 1000000 then ([], 4)
      else ([syncO p (segN L p - 1), writeO p (segN L p) fr], 0) := by
    unfold appendPlan
    rw [if_neg (by omega), hfr]
  rw [← hfr] at hz ⊢
  rw [hpl, hn]
  rcases List.eq_nil_or_concat X with hX | ⟨Y, f, hX⟩
  · subst hX
    rw [if_pos (show ([] : List F).length = 0 from rfl)]
    refine .inr ⟨rfl, ?_⟩
    have h0 : lk L (nameW p 0) = none := by rw [← segO_lk (by decide)]; exact h.out
    rcases step_write_new hp h0 (fr := fr) (by omega) with e | ⟨L', hst, hnow, hfine⟩
    · exact .inl (run_err e)
    · have hlog := IsLog.more (Y := []) h (by decide) (hgap 1 (by decide)) hnow
      exact .inr ⟨L', [⟨nameW p 0, ⟨#[]⟩, fr⟩], run_one hst, hlog, .first, hfine, fun j hj => by
        rw [now_gap hnow (by decide) (by simp at hj; omega)]
        exact hgap j (by simp at hj ⊢; omega)⟩
  · rw [List.concat_eq_append] at hX
    subst hX
    have hl : ∀ x : F, (Y ++ [x]).length = Y.length + 1 := fun x => by rw [List.length_append, List.length_singleton]
    rw [hl] at hfew hn
    have hlast : lastF L p = f := by
      unfold lastF
      rw [hn, Nat.add_sub_cancel, h.at_ Y.length (by rw [hl]; omega), List.getElem_append_right (Nat.le_refl _)]
      simp
    have hlkf : lk L (nameW p Y.length) = some f := by
      rw [← segO_lk (by omega), h.at_ Y.length (by rw [hl]; omega), List.getElem_append_right (Nat.le_refl _)]
      simp
    rw [hl, hlast, if_neg (by omega), Nat.add_sub_cancel]
    by_cases hfit : fitsB f fr.size = true
    · rw [if_pos hfit]
      refine .inr ⟨rfl, .inr ?_⟩
      obtain ⟨L', hst, hnow, hfine⟩ := step_write_old hp hlkf (fitsB_size hfit (by omega))
      exact ⟨L', _, run_one hst, h.put hnow, .fits Y f hfit, hfine, fun j hj => by
        rw [hl] at hj
        rw [now_gap hnow (by omega) (by omega)]
        exact hgap j (by rw [hl]; exact hj)⟩
    · rw [if_neg hfit]
      by_cases h6 : Y.length + 1 = 1000000
      · rw [if_pos h6]
        exact .inl ⟨rfl, h6⟩
      · rw [if_neg h6]
        refine .inr ⟨rfl, ?_⟩
        obtain ⟨L1, hst1, hnow1, hfine1⟩ := step_syncO hp hlkf
        have hlog1 := h.put hnow1
        have hnone : lk L1 (nameW p (Y.length + 1)) = none := by
          have := hlog1.out
          rw [hl, segO_lk (by omega)] at this
          exact this
        have hrun : ∀ o, run L [syncO p Y.length, o] = bump 1 (run L1 [o]) := fun o => by rw [run_ok (by rw [hst1]), hst1]
        rcases step_write_new hp hnone (fr := fr) (by omega) with e | ⟨L', hst, hnow, hfine⟩
        · refine .inl ?_
          rw [hrun]
          exact run_err e
        · have hlog := IsLog.more (g := ⟨nameW p (Y.length + 1), ⟨#[]⟩, fr⟩) hlog1 (by rw [hl]; omega) (by
            rw [hl, now_gap hnow1 (by omega) (by omega)]
            exact hgap _ (by rw [hl]; omega)) (by rw [hl]; exact hnow)
          refine .inr ⟨L', Y ++ [⟨f.name, f.kept ++ f.loose, ⟨#[]⟩⟩, ⟨nameW p (Y.length + 1), ⟨#[]⟩, fr⟩], ?_, ?_, .next Y f, hfine1.trans hfine, fun j hj => ?_⟩
          · rw [hrun, run_one hst]
            rfl
          · rw [List.append_assoc] at hlog
            exact hlog
          · rw [List.length_append] at hj
            simp only [List.length_cons, List.length_nil] at hj
            rw [now_gap hnow (by omega) (by omega), now_gap hnow1 (by omega) (by omega)]
            exact hgap j (by rw [hl]; omega)
/-- Behind a record more the log is whole, and tells it last. -/
theorem grown_recs {p record : ByteArray} {X X' : List F} (hr : record.size ≤ 65536) (hw : ∀ f ∈ X, ¬ tornF f) (h : Grown p (frameB record) X X') : (∀ f ∈ X', ¬ tornF f) ∧ X'.flatMap recsF = X.flatMap recsF ++ [record.data.toList] := by
  have hb : record.data.toList.length ≤ 65536 := by rw [← size_list]; exact hr
  have hnew : ∀ nm, fbytes ⟨nm, ⟨#[]⟩, frameB record⟩ = frameL record.data.toList := fun nm => by
    unfold fbytes
    rw [nil_append, frameB_data]
  have rnew : ∀ nm, recsF ⟨nm, ⟨#[]⟩, frameB record⟩ = [record.data.toList] := fun nm => by
    unfold recsF
    rw [hnew, scan_frame hb]
  have wnew : ∀ nm, ¬ tornF ⟨nm, ⟨#[]⟩, frameB record⟩ := fun nm => by
    unfold tornF
    rw [rnew, hnew, frameL_len]
    simp [bytesOf]
  have hsync : ∀ f : F, fbytes ⟨f.name, f.kept ++ f.loose, ⟨#[]⟩⟩ = fbytes f := fun f => by
    unfold fbytes
    rw [append_nil]
  have rsync : ∀ f : F, recsF ⟨f.name, f.kept ++ f.loose, ⟨#[]⟩⟩ = recsF f := fun f => by
    unfold recsF
    rw [hsync]
  cases h with
  | first =>
    refine ⟨fun f hf => ?_, ?_⟩
    · rw [List.mem_singleton.1 hf]; exact wnew _
    · rw [List.flatMap_singleton, rnew]; rfl
  | fits Y f hfit =>
    have hf := hw f (by simp)
    have hfb : bytesOf (scanAll (fbytes f)) = (fbytes f).length := by
      have h1 := bytesOf_scan (fbytes f).length (fbytes f) (Nat.le_refl _)
      unfold tornF recsF at hf
      omega
    have hby : fbytes ⟨f.name, f.kept, f.loose ++ frameB record⟩ = fbytes f ++ frameL record.data.toList := by
      unfold fbytes
      rw [append_data, append_data, append_data, frameB_data, List.append_assoc]
    have hre : recsF ⟨f.name, f.kept, f.loose ++ frameB record⟩ = recsF f ++ [record.data.toList] := by
      unfold recsF
      rw [hby, scan_whole _ hfb, scan_frame hb]
    refine ⟨fun g hg => ?_, ?_⟩
    · rcases List.mem_append.1 hg with h | h
      · exact hw g (List.mem_append.2 (.inl h))
      · rw [List.mem_singleton.1 h]
        unfold tornF
        rw [hre, hby, bytesOf_append, List.length_append, frameL_len]
        unfold recsF
        rw [hfb]
        simp [bytesOf]
    · rw [List.flatMap_append, List.flatMap_append, List.flatMap_singleton, List.flatMap_singleton, hre, List.append_assoc]
  | next Y f =>
    have hf := hw f (by simp)
    refine ⟨fun g hg => ?_, ?_⟩
    · rcases List.mem_append.1 hg with h | h
      · exact hw g (List.mem_append.2 (.inl h))
      · rcases List.mem_cons.1 h with h | h
        · rw [h]
          unfold tornF at hf ⊢
          rw [rsync, hsync]
          exact hf
        · rw [List.mem_singleton.1 h]; exact wnew _
    · rw [List.flatMap_append, List.flatMap_append, List.flatMap_singleton, List.flatMap_cons, List.flatMap_singleton, rsync, rnew, List.append_assoc]

end Go.Proofs.YtlnhbndghnkfmaaGreatDoor
