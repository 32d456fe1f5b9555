/- Plain mathematics: a transaction's bytes tell of it, and what tells of a transaction that may be is its bytes. -/
import Derived.Test.YteagmdnpajalgaaTxP
import Derived.Test.YteagmdnpajalgaaNums
namespace Go.Proofs.Yteagmdnpajalgaa

theorem rd_8 {l : List UInt8} (h : l.length = 8) : rd l < 18446744073709551616 ∧ be8 (rd l) = l := by
  obtain ⟨a, b, c, d, e, f, g, i, rfl⟩ := list8 h
  have ha := a.toNat_lt; have hb := b.toNat_lt; have hc := c.toNat_lt; have hd := d.toNat_lt
  have he := e.toNat_lt; have hf := f.toNat_lt; have hg := g.toNat_lt; have hi := i.toNat_lt
  have hr : rd [a, b, c, d, e, f, g, i] = ((((((a.toNat * 256 + b.toNat) * 256 + c.toNat) * 256 + d.toNat) * 256 + e.toNat) * 256 + f.toNat) * 256 + g.toNat) * 256 + i.toNat := by
    simp [rd]
  rw [hr]
  refine ⟨by omega, ?_⟩
  unfold be8
  congr 1
  · apply UInt8.toNat_inj.1; rw [UInt8.toNat_ofNat']; omega
  congr 1
  · apply UInt8.toNat_inj.1; rw [UInt8.toNat_ofNat']; omega
  congr 1
  · apply UInt8.toNat_inj.1; rw [UInt8.toNat_ofNat']; omega
  congr 1
  · apply UInt8.toNat_inj.1; rw [UInt8.toNat_ofNat']; omega
  congr 1
  · apply UInt8.toNat_inj.1; rw [UInt8.toNat_ofNat']; omega
  congr 1
  · apply UInt8.toNat_inj.1; rw [UInt8.toNat_ofNat']; omega
  congr 1
  · apply UInt8.toNat_inj.1; rw [UInt8.toNat_ofNat']; omega
  congr 1
  apply UInt8.toNat_inj.1; rw [UInt8.toNat_ofNat']; omega
theorem len_size (s : ByteArray) : s.data.toList.length = s.size := (Lib.size_eq s).symm
theorem numsR_lt (d : ByteArray) (h : d.size = 64) (k : Nat) (hk : k < 8) : numsR d k < 18446744073709551616 := by
  unfold numsR
  refine (rd_8 ?_).1
  rw [len_size, ByteArray.size_extract]
  omega
theorem be8_len (n : Nat) : (be8 n).length = 8 := rfl
theorem nums8_at (a : Nat → Nat) : ∀ (m k : Nat), k < m → (nums8 a m).drop (8 * k) = be8 (a k) ++ ((nums8 a m).drop (8 * (k + 1)))
  | 0, k, h => absurd h (Nat.not_lt_zero _)
  | m + 1, k, h => by
    unfold nums8
    have hl := nums8_len a m
    rcases Nat.lt_or_ge k m with hk | hk
    · rw [List.drop_append_of_le_length (by omega), List.drop_append_of_le_length (by omega), nums8_at a m k hk, List.append_assoc]
    · obtain rfl : k = m := by omega
      rw [← hl, List.drop_left, List.drop_of_length_le (by rw [List.length_append, be8_len, hl]; omega), List.append_nil]
theorem numsR_nums8 (a : Nat → Nat) (k : Nat) (hk : k < 8) (ha : a k < 18446744073709551616) : numsR (bs (nums8 a 8)) k = a k := by
  unfold numsR
  have e : ((bs (nums8 a 8)).extract (8 * k) (8 * (k + 1))).data.toList = be8 (a k) := by
    rw [Lib.extract_data]
    show ((nums8 a 8).drop (8 * k)).take (8 * (k + 1) - 8 * k) = _
    rw [nums8_at a 8 k hk, show 8 * (k + 1) - 8 * k = (be8 (a k)).length by rw [be8_len]; omega, List.take_left]
  rw [e, rd_be8 _ ha]
theorem nums8_take (d : ByteArray) (h : d.size = 64) : ∀ k, k ≤ 8 → nums8 (numsR d) k = d.data.toList.take (8 * k)
  | 0, _ => rfl
  | k + 1, hk => by
    unfold nums8
    rw [nums8_take d h k (by omega)]
    have hl := len_size d
    have e : be8 (numsR d k) = (d.data.toList.drop (8 * k)).take 8 := by
      unfold numsR
      rw [Lib.extract_data, show 8 * (k + 1) - 8 * k = 8 by omega, (rd_8 _).2]
      rw [List.length_take, List.length_drop]
      omega
    rw [e, show 8 * (k + 1) = 8 * k + 8 by omega, List.take_add]
theorem nums8_all (d : ByteArray) (h : d.size = 64) : bs (nums8 (numsR d) 8) = d := by
  rw [nums8_take d h 8 (Nat.le_refl _), List.take_of_length_le (by rw [len_size]; omega), bs_data]
theorem one8_of {a : ByteArray} (h : a.size = 1) : one8 (a[0]'(by omega)).toNat = a := by
  have hl := len_size a
  rw [h] at hl
  obtain ⟨⟨l⟩⟩ := a
  match l, hl with
  | [c], _ =>
    show bs [UInt8.ofNat c.toNat] = _
    rw [UInt8.ofNat_toNat]
    rfl
theorem one8_at (z : Nat) (hz : z < 256) : ((one8 z)[0]'(by rw [one8_size]; decide)).toNat = z := by
  show (UInt8.ofNat z).toNat = z
  rw [UInt8.toNat_ofNat']
  omega
theorem wrap_small {n : Nat} (h : n < 9223372036854775808) : IntKind.i64.wrap (n : Int) = (n : Int) := by rw [IntKind.wrap_i64]; omega
theorem wrap_back {n : Nat} (h : n < 18446744073709551616) (h0 : 0 ≤ IntKind.i64.wrap (n : Int)) : IntKind.i64.wrap (n : Int) = (n : Int) := by rw [IntKind.wrap_i64] at *; omega
theorem readOp_opF {o : TO} {m : Int} (h : okOp o m) : readOpR (one8 o.kind.toNat) o.key o.elem (bs (be8 o.n.toNat)) = some o := by
  have hk := okOp_kind h
  have hn := okOp_n h
  unfold readOpR
  rw [dif_pos ⟨one8_size _, by rw [bs_size]; rfl⟩]
  obtain ⟨kd, key, elem, n⟩ := o
  simp only [] at hk hn ⊢
  rw [one8_at kd.toNat (by omega), show (bs (be8 n.toNat)).data.toList = be8 n.toNat from rfl, rd_be8 _ (by omega), wrap_small (by omega), Int.toNat_of_nonneg (by omega), Int.toNat_of_nonneg (by omega)]
theorem readOp_back {a b c d : ByteArray} {o : TO} {m : Int} (h : readOpR a b c d = some o) (ho : okOp o m) : opF o = [a, b, c, d] := by
  unfold readOpR at h
  split at h
  case isFalse => cases h
  rename_i h1
  injection h with h
  subst h
  have hn := okOp_n ho
  simp only [] at hn
  have h8 : d.data.toList.length = 8 := by rw [len_size]; exact h1.2
  obtain ⟨hlt, hbe⟩ := rd_8 h8
  unfold opF
  simp only []
  rw [wrap_back hlt hn.1, Int.toNat_natCast, Int.toNat_natCast, hbe, bs_data, one8_of h1.1]
theorem flat_at {α β : Type} (g : α → List β) (k : Nat) (hg : ∀ x, (g x).length = k) : ∀ (L : List α) (q r : Nat) (hq : q < L.length), r < k → (L.flatMap g)[q * k + r]? = (g L[q])[r]?
  | [], q, r, hq, _ => absurd hq (by simp)
  | x :: l, 0, r, _, hr => by
    rw [List.flatMap_cons, Nat.zero_mul, Nat.zero_add, List.getElem?_append_left (by rw [hg]; exact hr)]
    rfl
  | x :: l, q + 1, r, hq, hr => by
    rw [List.flatMap_cons, List.getElem?_append_right (by rw [hg, Nat.succ_mul]; omega), hg, show (q + 1) * k + r - k = q * k + r by rw [Nat.succ_mul]; omega, flat_at g k hg l q r (by simpa using hq) hr]
    rfl
theorem fieldsT_len (t : TX) : (fieldsT t).length = 4 + 4 * t.ops.length := by
  unfold fieldsT
  rw [List.length_append, opsF_len]
  rfl
theorem fieldsT_op (t : TX) (x r : Nat) (hx : x < t.ops.length) (hr : r < 4) : (fieldsT t)[4 + 4 * x + r]? = (opF t.ops[x])[r]? := by
  unfold fieldsT
  rw [List.getElem?_append_right (by show 4 ≤ _; omega), show 4 + 4 * x + r - (headF t).length = x * 4 + r by show 4 + 4 * x + r - 4 = _; omega]
  exact flat_at opF 4 (fun _ => rfl) t.ops x r hx hr
theorem opAt_fieldsT {t : TX} (h : okTx t) (x : Nat) (hx : x < t.ops.length) : opAt (fieldsT t) x = some t.ops[x] := by
  have e : ∀ r, r < 4 → atL (fieldsT t) (4 + 4 * x + r) = ((opF t.ops[x])[r]?).getD ⟨#[]⟩ := fun r hr => by unfold atL; rw [fieldsT_op t x r hx hr]
  have e0 := e 0 (by decide)
  rw [Nat.add_zero] at e0
  unfold opAt
  rw [e0, e 1 (by decide), e 2 (by decide), e 3 (by decide)]
  exact readOp_opF (h.2.2.2 _ (List.getElem_mem hx))
theorem allSome_eq {f : Nat → Option TO} {l : List TO} (h : ∀ x (hx : x < l.length), f x = some l[x]) : allSome ((List.range l.length).map f) = some l := by
  have e : (List.range l.length).map f = l.map some := by
    apply List.ext_getElem
    · simp
    · intro i h1 h2
      simp at h1 ⊢
      exact h i (by simpa using h2)
  rw [e]
  unfold allSome
  rw [if_pos (by simp)]
  congr 1
  rw [filterMap_map_id]
  exact List.filterMap_some ..
theorem allSome_inv {f : Nat → Option TO} {N : Nat} {l : List TO} (h : allSome ((List.range N).map f) = some l) : l.length = N ∧ ∀ x (hx : x < l.length), f x = some l[x] := by
  unfold allSome at h
  split at h
  case isFalse => cases h
  rename_i ha
  injection h with h
  have e : l.map some = (List.range N).map f := by
    rw [← h]
    have : ∀ m : List (Option TO), m.all Option.isSome = true → (m.filterMap id).map some = m := by
      intro m
      induction m with
      | nil => intro _; rfl
      | cons a r ih =>
        intro hm
        rw [List.all_cons, Bool.and_eq_true] at hm
        obtain ⟨y, rfl⟩ := Option.isSome_iff_exists.1 hm.1
        rw [List.filterMap_cons]
        simp only [id, List.map_cons]
        rw [ih hm.2]
    exact this _ ha
  have hl := congrArg List.length e
  simp at hl
  refine ⟨hl, fun x hx => ?_⟩
  have h1 := congrArg (fun m => m[x]?) e
  simp only [List.getElem?_map, List.getElem?_eq_getElem hx, List.getElem?_range (show x < N by omega), Option.map_some, Option.some.injEq] at h1
  exact h1.symm
/-- A transaction's fields tell of it. -/
theorem readTR_fields {t : TX} (hx : NumX t) (h : okTx t) : ∃ u, readTR (fieldsT t) = some u ∧ okTx u ∧ sameT u t = true := by
  have hl := fieldsT_len t
  have h1 := h.2.1
  have hat : ∀ i (_ : i < 4), atL (fieldsT t) i = ((headF t)[i]?).getD ⟨#[]⟩ := fun i hi => by
    unfold atL fieldsT
    rw [List.getElem?_append_left (show i < (headF t).length from hi)]
  have hh : readHeadR (atL (fieldsT t) 0) (atL (fieldsT t) 1) (atL (fieldsT t) 2) (atL (fieldsT t) 3) = some ⟨t.origin, t.seq, t.stamp, numsR (bs (nums8 t.deps 8)), []⟩ := by
    rw [hat 0 (by decide), hat 1 (by decide), hat 2 (by decide), hat 3 (by decide)]
    show readHeadR (one8 t.origin.toNat) (bs (be8 t.seq)) (bs (be8 t.stamp)) (bs (nums8 t.deps 8)) = _
    unfold readHeadR
    rw [dif_pos ⟨one8_size _, by rw [bs_size]; rfl, by rw [bs_size]; rfl, by rw [bs_size, nums8_len]⟩]
    have ho := h.1.1
    have ho8 := h.1.2.1
    rw [one8_at t.origin.toNat (by omega), Int.toNat_of_nonneg ho, show (bs (be8 t.seq)).data.toList = be8 t.seq from rfl, show (bs (be8 t.stamp)).data.toList = be8 t.stamp from rfl, rd_be8 _ hx.seq, rd_be8 _ hx.stamp]
  refine ⟨⟨t.origin, t.seq, t.stamp, numsR (bs (nums8 t.deps 8)), t.ops⟩, ?_, ?_, ?_⟩
  · unfold readTR
    rw [if_neg (by rw [hl]; omega), hh]
    show Option.map _ (allSome ((List.range (((fieldsT t).length - 4) / 4)).map (opAt (fieldsT t)))) = _
    rw [hl, show (4 + 4 * t.ops.length - 4) / 4 = t.ops.length by omega, allSome_eq (fun x hx => opAt_fieldsT h x hx)]
    rfl
  · refine ⟨⟨h.1.1, h.1.2.1, h.1.2.2.1, h.1.2.2.2.1, ?_⟩, h.2⟩
    have ho := h.1.1
    have ho8 := h.1.2.1
    show numsR (bs (nums8 t.deps 8)) t.origin.toNat = _
    rw [numsR_nums8 t.deps t.origin.toNat (by omega) (hx.deps _ (by omega))]
    exact h.1.2.2.2.2
  · unfold sameT
    simp only [tsameB_yes, beq_self_eq_true, Bool.true_and, Bool.and_true]
    exact eqB_iff.2 fun k hk => numsR_nums8 t.deps k hk (hx.deps k hk)
/-- Fields that tell of a transaction that may be are its own. -/
theorem readTR_back {L : List ByteArray} {t : TX} (h : readTR L = some t) (ho : okTx t) : fieldsT t = L := by
  unfold readTR at h
  split at h
  · cases h
  rename_i hl
  cases hh : readHeadR (atL L 0) (atL L 1) (atL L 2) (atL L 3) with
  | none => rw [hh] at h; cases h
  | some u =>
    rw [hh] at h
    obtain ⟨ops, h1, h2⟩ := Option.map_eq_some_iff.1 h
    obtain ⟨hln, hop⟩ := allSome_inv h1
    subst h2
    have hlen : L.length = 4 + 4 * ops.length := by omega
    have hhead : headF { u with ops := ops } = [atL L 0, atL L 1, atL L 2, atL L 3] := by
      unfold readHeadR at hh
      split at hh
      case isFalse => cases hh
      rename_i hz
      injection hh with hh
      subst hh
      unfold headF
      simp only []
      rw [Int.toNat_natCast, one8_of hz.1, (rd_8 (by rw [len_size]; exact hz.2.1)).2, (rd_8 (by rw [len_size]; exact hz.2.2.1)).2, bs_data, bs_data, nums8_all _ hz.2.2.2]
    have hget : ∀ i, i < L.length → L[i]? = some (atL L i) := fun i hi => by unfold atL; rw [List.getElem?_eq_getElem hi]; rfl
    apply List.ext_getElem?
    intro i
    rcases Nat.lt_or_ge i L.length with hi | hi
    case inr => rw [List.getElem?_eq_none hi, List.getElem?_eq_none (by rw [fieldsT_len]; show 4 + 4 * ops.length ≤ i; omega)]
    rw [hget i hi]
    rcases Nat.lt_or_ge i 4 with h4 | h4
    · unfold fieldsT
      rw [List.getElem?_append_left (show i < (headF _).length from h4), hhead]
      match i, h4 with
      | 0, _ => rfl
      | 1, _ => rfl
      | 2, _ => rfl
      | 3, _ => rfl
    · obtain ⟨x, r, hr, rfl⟩ : ∃ x r, r < 4 ∧ i = 4 + 4 * x + r := ⟨(i - 4) / 4, (i - 4) % 4, by omega, by omega⟩
      have hx : x < ops.length := by omega
      rw [fieldsT_op { u with ops := ops } x r hx hr]
      have hb := readOp_back (hop x hx) (ho.2.2.2 _ (List.getElem_mem hx))
      show (opF ops[x])[r]? = _
      rw [hb]
      match r, hr with
      | 0, _ => rfl
      | 1, _ => rfl
      | 2, _ => rfl
      | 3, _ => rfl
theorem dec_enc {t : TX} (hx : NumX t) (h : okTx t) : ∃ u, decodeR (txB t).data.toList = some u ∧ okTx u ∧ sameT u t = true := by
  obtain ⟨u, h1, h2, h3⟩ := readTR_fields hx h
  refine ⟨u, ?_, h2, h3⟩
  unfold decodeR
  rw [show (txB t).data.toList = packL (fieldsT t) from rfl, unpack_pack (okPack_T h)]
  show readTR (((fieldsT t).map (·.data.toList)).map bs) = _
  rw [map_bs_data]
  exact h1
theorem enc_dec {s : ByteArray} {t : TX} (h : decodeR s.data.toList = some t) (ho : okTx t) : txB t = s := by
  unfold decodeR at h
  cases hu : unpackL s.data.toList with
  | none => rw [hu] at h; cases h
  | some fs =>
    rw [hu] at h
    have hb := readTR_back h ho
    unfold txB
    rw [hb, (unpack_back hu).2, bs_data]
/-- What bytes tell of has numbers that fit. -/
theorem dec_num {s : ByteArray} {t : TX} (h : decodeR s.data.toList = some t) : NumX t := by
  unfold decodeR at h
  cases hu : unpackL s.data.toList with
  | none => rw [hu] at h; cases h
  | some fs =>
    rw [hu] at h
    have hp := (unpack_back hu).1
    obtain ⟨L, hL⟩ : ∃ L, L = fs.map bs := ⟨_, rfl⟩
    rw [← hL] at hp
    have h' : readTR L = some t := by rw [hL]; exact h
    clear h
    have h := h'
    unfold readTR at h
    split at h
    · cases h
    rename_i hl
    cases hh : readHeadR (atL L 0) (atL L 1) (atL L 2) (atL L 3) with
    | none => rw [hh] at h; cases h
    | some u =>
      rw [hh] at h
      obtain ⟨ops, h1, h2⟩ := Option.map_eq_some_iff.1 h
      obtain ⟨hln, hop⟩ := allSome_inv h1
      subst h2
      unfold readHeadR at hh
      split at hh
      case isFalse => cases hh
      rename_i hz
      injection hh with hh
      subst hh
      refine ⟨(rd_8 (by rw [len_size]; exact hz.2.1)).1, (rd_8 (by rw [len_size]; exact hz.2.2.1)).1, fun k hk => numsR_lt _ hz.2.2.2 k hk, fun o ho => ?_⟩
      obtain ⟨x, hx, rfl⟩ := List.mem_iff_getElem.1 ho
      have hq := hop x hx
      unfold opAt readOpR at hq
      split at hq
      case isFalse => cases hq
      injection hq with hq
      rw [← hq]
      show (atL L (4 + 4 * x + 1)).size ≤ _
      unfold atL
      cases he : L[4 + 4 * x + 1]? with
      | none => exact Nat.zero_le _
      | some y => exact Nat.le_trans (hp.2.1 y (List.mem_of_getElem? he)) (by decide)
end Go.Proofs.Yteagmdnpajalgaa
