/- Plain mathematics: what was packed is unpacked, and what is unpacked was packed so. -/
import Derived.Test.YteagmdnpajalgaaUnpack
import Derived.Test.YteagmdnpajalgaaFramePlain
namespace Go.Proofs.Yteagmdnpajalgaa

theorem be4_rd (l : List UInt8) (h : 4 ≤ l.length) : l = be4 (rdS l) ++ l.drop 4 := by
  match l, h with
  | a :: b :: c :: d :: t, _ =>
    have ha := a.toNat_lt; have hb := b.toNat_lt; have hc := c.toNat_lt; have hd := d.toNat_lt
    have e : be4 (rd4 a b c d) = [a, b, c, d] := by
      unfold be4 rd4
      congr 1
      · apply UInt8.toNat_inj.1; rw [UInt8.toNat_ofNat']; omega
      congr 1
      · apply UInt8.toNat_inj.1; rw [UInt8.toNat_ofNat']; omega
      congr 1
      · apply UInt8.toNat_inj.1; rw [UInt8.toNat_ofNat']; omega
      congr 1
      · apply UInt8.toNat_inj.1; rw [UInt8.toNat_ofNat']; omega
    show a :: b :: c :: d :: t = be4 (rd4 a b c d) ++ t
    rw [e]; rfl
theorem field_of (d r : List UInt8) (h : d.length ≤ 65536) : fieldF (be4 d.length ++ (d ++ r)) = some d := by
  have h0 := be4_bytes d.length (by omega) (d ++ r)
  unfold fieldF
  rw [h0, if_neg (by rw [List.length_append, be4_len]; omega), if_neg (by rw [List.length_append, List.length_append, be4_len]; omega), drop4_be4, List.take_left]
theorem unpack_flat (r : List UInt8) : ∀ L : List ByteArray, (∀ s ∈ L, s.size ≤ 65536) → unpackN L.length (flat L ++ r) = some (L.map (·.data.toList), r)
  | [], _ => rfl
  | s :: L, h => by
    have hs : s.data.toList.length ≤ 65536 := by rw [← Lib.size_eq]; exact h s (by simp)
    have e : flat (s :: L) ++ r = be4 s.data.toList.length ++ (s.data.toList ++ (flat L ++ r)) := by
      simp only [flat, List.append_assoc]
      rw [← Lib.size_eq]
    rw [e, List.length_cons, unpackN_some (field_of _ _ hs), ← be4_len s.data.toList.length, ← List.drop_drop, List.drop_left, List.drop_left, unpack_flat r L (fun x hx => h x (by simp [hx]))]
    rfl
theorem unpack_pack {L : List ByteArray} (h : okPack L) : unpackL (packL L) = some (L.map (·.data.toList)) := by
  have hl := packL_length L
  have h0 : rdS (packL L) = L.length := be4_bytes _ (by have := h.1; omega) _
  have hd : (packL L).drop 4 = flat L ++ [] := by rw [List.append_nil]; exact drop4_be4 _ _
  unfold unpackL
  rw [if_neg (by have := h.2.2; omega), h0, if_neg (by have := h.1; omega), hd, unpack_flat [] L h.2.1]
  rfl
theorem unpackN_back : ∀ (k : Nat) (l : List UInt8) (fs : List (List UInt8)) (r : List UInt8), unpackN k l = some (fs, r) → l = flat (fs.map bs) ++ r ∧ fs.length = k ∧ ∀ f ∈ fs, f.length ≤ 65536
  | 0, l, fs, r, h => by
    injection h with h; injection h with h1 h2
    subst h1 h2
    exact ⟨rfl, rfl, fun f hf => by cases hf⟩
  | k + 1, l, fs, r, h => by
    cases hf : fieldF l with
    | none => rw [unpackN_none hf] at h; cases h
    | some f =>
      rw [unpackN_some hf] at h
      obtain ⟨⟨fs', r'⟩, h1, h2⟩ := Option.map_eq_some_iff.1 h
      injection h2 with h3 h4
      subst h3 h4
      obtain ⟨i1, i2, i3⟩ := unpackN_back k _ _ _ h1
      have hfl := fieldF_len hf
      refine ⟨?_, by simp [i2], fun x hx => ?_⟩
      · have e1 := be4_rd l (by omega)
        have e2 : l.drop 4 = f ++ l.drop (4 + f.length) := by
          have : f = (l.drop 4).take f.length := by
            unfold fieldF at hf
            split at hf
            · cases hf
            split at hf
            · cases hf
            · injection hf with hf
              rw [hfl.2.2]; exact hf.symm
          conv => lhs; rw [← List.take_append_drop f.length (l.drop 4), ← this, List.drop_drop]
        rw [i1] at e2
        conv => lhs; rw [e1, e2, ← hfl.2.2]
        simp only [List.map_cons, flat, bs_size, List.append_assoc]
        rfl
      · rcases List.mem_cons.1 hx with rfl | hx
        · exact hfl.2.1
        · exact i3 x hx
theorem unpack_back {l : List UInt8} {fs : List (List UInt8)} (h : unpackL l = some fs) : okPack (fs.map bs) ∧ packL (fs.map bs) = l := by
  unfold unpackL at h
  split at h
  · cases h
  rename_i h1
  split at h
  · cases h
  rename_i h2
  have hu : unpackN (rdS l) (l.drop 4) = some (fs, []) := by
    revert h
    cases hh : unpackN (rdS l) (l.drop 4) with
    | none => intro h; cases h
    | some p =>
      obtain ⟨f, r⟩ := p
      cases r with
      | nil => intro h; injection h with h; rw [h]
      | cons x xs => intro h; cases h
  obtain ⟨i1, i2, i3⟩ := unpackN_back _ _ _ _ hu
  rw [List.append_nil] at i1
  have hp : packL (fs.map bs) = l := by
    unfold packL
    rw [List.length_map, i2, ← i1, ← be4_rd l (by omega)]
  refine ⟨⟨by rw [List.length_map, i2]; omega, fun s hs => ?_, ?_⟩, hp⟩
  · obtain ⟨f, hf, rfl⟩ := List.mem_map.1 hs
    rw [bs_size]; exact i3 f hf
  · rw [← packL_length, hp]; omega
theorem map_bs_data (L : List ByteArray) : (L.map (·.data.toList)).map bs = L := by
  rw [List.map_map]
  conv => rhs; rw [← List.map_id L]
  exact List.map_congr_left (fun s _ => bs_data s)
theorem pack_inj {a b : List ByteArray} (ha : okPack a) (hb : okPack b) (h : packL a = packL b) : a = b := by
  have h1 := unpack_pack ha
  rw [h, unpack_pack hb] at h1
  injection h1 with h1
  have := congrArg (List.map bs) h1
  rw [map_bs_data, map_bs_data] at this
  exact this.symm
end Go.Proofs.Yteagmdnpajalgaa
