/- Plain mathematics of the texts of vectors: numerals, words between points. No program in it. -/
import Derived.Lib.ItoaNum
import Derived.Lib.ParseIntBCases
namespace Go.Proofs.YtioldhhnkeakcaaDoor.PV

def isDig (c : UInt8) : Prop := 48 ≤ c.toNat ∧ c.toNat ≤ 57
/-- What digits spell, behind acc. -/
def val (acc : Nat) (l : List UInt8) : Nat := l.foldl (fun n c => n * 10 + (c.toNat - 48)) acc
theorem val_nil (acc : Nat) : val acc [] = acc := rfl
theorem val_cons (acc : Nat) (c : UInt8) (l : List UInt8) : val acc (c :: l) = val (acc * 10 + (c.toNat - 48)) l := by simp only [val, List.foldl_cons]
theorem val_snoc (acc : Nat) (l : List UInt8) (c : UInt8) : val acc (l ++ [c]) = val acc l * 10 + (c.toNat - 48) := by
  simp [val, List.foldl_append]
theorem val_ge : ∀ (l : List UInt8) (acc : Nat), acc ≤ val acc l
  | [], _ => Nat.le_refl _
  | c :: l, acc => by
    rw [val_cons]
    exact Nat.le_trans (by omega) (val_ge l _)
theorem val_mono : ∀ (l : List UInt8) (a b : Nat), a ≤ b → val a l ≤ val b l
  | [], _, _, h => h
  | c :: l, a, b, h => by
    rw [val_cons, val_cons]
    exact val_mono l _ _ (by omega)
theorem val_append (acc : Nat) (l k : List UInt8) : val acc (l ++ k) = val (val acc l) k := by simp [val, List.foldl_append]

theorem parse_ok : ∀ (l : List UInt8) (acc u : Nat), Lib.parseUint10 acc l = .ok u → (∀ c ∈ l, isDig c) ∧ val acc l = u
  | [], acc, u, h => by
    simp only [Lib.parseUint10] at h
    injection h with h
    exact ⟨fun c hc => (by cases hc), h⟩
  | c :: r, acc, u, h => by
    simp only [Lib.parseUint10] at h
    split at h
    · next hd =>
      split at h
      · cases h
      · split at h
        · cases h
        · obtain ⟨h1, h2⟩ := parse_ok r _ u h
          exact ⟨fun x hx => by
            rcases List.mem_cons.1 hx with rfl | hx
            · exact hd
            · exact h1 x hx, by rw [val_cons]; exact h2⟩
    · cases h
theorem parse_of : ∀ (l : List UInt8) (acc : Nat), (∀ c ∈ l, isDig c) → val acc l < 18446744073709551616 → Lib.parseUint10 acc l = .ok (val acc l)
  | [], _, _, _ => rfl
  | c :: r, acc, hd, hv => by
    have hc : 48 ≤ c.toNat ∧ c.toNat ≤ 57 := hd c (by simp)
    rw [val_cons] at hv ⊢
    have hg := val_ge r (acc * 10 + (c.toNat - 48))
    simp only [Lib.parseUint10]
    rw [if_pos hc, if_neg (by omega), if_neg (by omega)]
    exact parse_of r _ (fun x hx => hd x (by simp [hx])) hv

/-- The number of a word: digits without noughts ahead, up to 2^64 - 1. -/
def numL (l : List UInt8) : Option Nat :=
  if 1 < l.length ∧ l.headD 0 = 48 then none else
    match Lib.parseUintB 64 l with
    | .ok u => some u
    | _ => none
theorem decDigits_big {n : Nat} (h : ¬ n < 10) : Lib.decDigits n = Lib.decDigits (n / 10) ++ [UInt8.ofNat (48 + n % 10)] := by rw [Lib.decDigits, dif_neg h]
theorem dec_facts (n : Nat) : (∀ c ∈ Lib.decDigits n, isDig c) ∧ val 0 (Lib.decDigits n) = n ∧ Lib.decDigits n ≠ [] ∧ (1 ≤ n → (Lib.decDigits n).headD 0 ≠ 48) ∧ (n = 0 → (Lib.decDigits n).length = 1) := by
  induction n using Nat.strongRecOn with
  | ind n ih =>
    by_cases h : n < 10
    · rw [Lib.decDigits_one h]
      have e : (UInt8.ofNat (48 + n)).toNat = 48 + n := by rw [UInt8.toNat_ofNat']; omega
      refine ⟨fun c hc => ?_, ?_, by simp, fun h1 => ?_, fun _ => rfl⟩
      · obtain rfl := List.mem_singleton.1 hc
        unfold isDig; omega
      · simp only [val, List.foldl]; omega
      · intro e2
        have := congrArg UInt8.toNat e2
        simp only [List.headD_cons] at this
        rw [e] at this
        have : (48 : UInt8).toNat = 48 := rfl
        omega
    · obtain ⟨i1, i2, i3, i4, i5⟩ := ih (n / 10) (by omega)
      rw [decDigits_big h]
      have e : (UInt8.ofNat (48 + n % 10)).toNat = 48 + n % 10 := by rw [UInt8.toNat_ofNat']; omega
      refine ⟨fun c hc => ?_, ?_, by simp, fun _ => ?_, fun h0 => by omega⟩
      · rcases List.mem_append.1 hc with hc | hc
        · exact i1 c hc
        · obtain rfl := List.mem_singleton.1 hc
          unfold isDig; omega
      · rw [val_snoc, i2, e]; omega
      · have := i4 (by omega)
        cases hx : Lib.decDigits (n / 10) with
        | nil => exact absurd hx i3
        | cons x xs => rw [hx] at this; simpa using this
theorem head_val {l : List UInt8} (hd : ∀ c ∈ l, isDig c) (hne : l ≠ []) (h0 : l.headD 0 ≠ 48) : 1 ≤ val 0 l := by
  cases l with
  | nil => exact absurd rfl hne
  | cons c r =>
    have hc := hd c (by simp)
    have : c.toNat ≠ 48 := fun e => h0 (by simp only [List.headD_cons]; exact UInt8.toNat_inj.1 e)
    rw [val_cons]
    have := val_ge r (0 * 10 + (c.toNat - 48))
    unfold isDig at hc
    omega
/-- Digits without a nought ahead are the numeral of what they spell. -/
theorem dec_of_digits : ∀ (m : Nat) (l : List UInt8), l.length = m → (∀ c ∈ l, isDig c) → l ≠ [] → (l.length = 1 ∨ l.headD 0 ≠ 48) → Lib.decDigits (val 0 l) = l := by
  intro m
  induction m with
  | zero => intro l hl _ hne _; exact absurd (List.length_eq_zero_iff.1 hl) hne
  | succ m ih =>
    intro l hl hd hne h0
    obtain ⟨l', c, rfl⟩ : ∃ l' c, l = l' ++ [c] := ⟨l.dropLast, l.getLast hne, (List.dropLast_concat_getLast hne).symm⟩
    have hc := hd c (by simp)
    have hcn : UInt8.ofNat (48 + (c.toNat - 48)) = c := by
      rw [show 48 + (c.toNat - 48) = c.toNat from by unfold isDig at hc; omega]
      exact UInt8.ofNat_toNat
    rw [val_snoc]
    by_cases hl' : l' = []
    · subst hl'
      rw [show val 0 [] * 10 + (c.toNat - 48) = c.toNat - 48 from by simp [val]]
      rw [Lib.decDigits_one (by unfold isDig at hc; omega), hcn]
      rfl
    · have hh : l'.headD 0 ≠ 48 := by
        rcases h0 with h0 | h0
        · exact absurd (by simpa using h0) hl'
        · cases l' with
          | nil => exact absurd rfl hl'
          | cons x xs => simpa using h0
      have hd' : ∀ x ∈ l', isDig x := fun x hx => hd x (by simp [hx])
      have hv := head_val hd' hl' hh
      rw [decDigits_big (by omega), show (val 0 l' * 10 + (c.toNat - 48)) / 10 = val 0 l' from by unfold isDig at hc; omega,
        show (val 0 l' * 10 + (c.toNat - 48)) % 10 = c.toNat - 48 from by unfold isDig at hc; omega, hcn, ih l' (by simp at hl; omega) hd' hl' (Or.inr hh)]
theorem numL_some {l : List UInt8} {n : Nat} (h : numL l = some n) : l = Lib.decDigits n ∧ n < 18446744073709551616 ∧ (∀ c ∈ l, isDig c) := by
  unfold numL at h
  split at h
  · cases h
  · next hz =>
    split at h
    · next u hu =>
      injection h with h
      subst h
      rw [Lib.parseUintB_64] at hu
      have hlt := Lib.parseMag_lt hu
      unfold Lib.parseMag at hu
      split at hu
      · cases hu
      · next hne =>
        obtain ⟨hd, hv⟩ := parse_ok l 0 u hu
        refine ⟨?_, hlt, hd⟩
        rw [← hv]
        refine (dec_of_digits l.length l rfl hd hne ?_).symm
        by_cases h1 : 1 < l.length
        · exact Or.inr fun e => hz ⟨h1, e⟩
        · have : 0 < l.length := List.length_pos_iff.2 hne
          exact Or.inl (by omega)
    · cases h
theorem numL_of {l : List UInt8} (hne : l ≠ []) (hz : ¬ (1 < l.length ∧ l.headD 0 = 48)) (hd : ∀ c ∈ l, isDig c) (hv : val 0 l < 18446744073709551616) : numL l = some (val 0 l) := by
  unfold numL
  rw [if_neg hz, Lib.parseUintB_64, Lib.parseMag, if_neg hne, parse_of l 0 hd hv]
theorem numL_dec {n : Nat} (h : n < 18446744073709551616) : numL (Lib.decDigits n) = some n := by
  obtain ⟨h1, h2, h3, h4, h5⟩ := dec_facts n
  rw [numL_of h3 (fun ⟨a, b⟩ => by
    by_cases h0 : n = 0
    · have := h5 h0; omega
    · exact h4 (by omega) b) h1 (by rw [h2]; exact h), h2]
theorem numL_none_nil : numL [] = none := by decide
theorem numL_none_zero {l : List UInt8} (h : 1 < l.length) (h0 : l.headD 0 = 48) : numL l = none := by unfold numL; rw [if_pos ⟨h, h0⟩]
theorem numL_none_dig {l : List UInt8} {c : UInt8} (hc : c ∈ l) (h : ¬ isDig c) : numL l = none := by
  cases hn : numL l with
  | none => rfl
  | some n => exact absurd ((numL_some hn).2.2 c hc) h
theorem numL_none_val {l k : List UInt8} (h : 18446744073709551616 ≤ val 0 l) : numL (l ++ k) = none := by
  cases hn : numL (l ++ k) with
  | none => rfl
  | some n =>
    obtain ⟨h1, h2, h3⟩ := numL_some hn
    have : val 0 (l ++ k) = n := by rw [h1, (dec_facts n).2.1]
    rw [val_append] at this
    have := val_ge k (val 0 l)
    omega
/-- Of more than 20 digits none is a uint64's numeral. -/
theorem numL_none_long {l : List UInt8} (hlen : ∀ n, n < 18446744073709551616 → (Lib.decDigits n).length ≤ 20) (h : 20 < l.length) : numL l = none := by
  cases hn : numL l with
  | none => rfl
  | some n =>
    obtain ⟨h1, h2, _⟩ := numL_some hn
    have := hlen n h2
    rw [← h1] at this
    omega

/-- The words between the points of a text. -/
def words : List UInt8 → List (List UInt8)
  | [] => [[]]
  | c :: r => if c = 46 then [] :: words r else
    match words r with
    | w :: ws => (c :: w) :: ws
    | [] => [[c]]
/-- Words with a point between each two. -/
def join : List (List UInt8) → List UInt8
  | [] => []
  | [w] => w
  | w :: v :: ws => w ++ 46 :: join (v :: ws)
theorem words_ne : ∀ l, words l ≠ []
  | [] => by simp [words]
  | c :: r => by
    unfold words
    split
    · simp
    · split <;> simp
theorem words_noDot : ∀ (w : List UInt8), (∀ c ∈ w, c ≠ 46) → words w = [w]
  | [], _ => rfl
  | c :: r, h => by
    have hc : c ≠ 46 := h c (by simp)
    have hr := words_noDot r (fun x hx => h x (by simp [hx]))
    simp only [words, if_neg hc, hr]
theorem words_dot : ∀ (w r : List UInt8), (∀ c ∈ w, c ≠ 46) → words (w ++ 46 :: r) = w :: words r
  | [], r, _ => by simp [words]
  | c :: w, r, h => by
    have hc : c ≠ 46 := h c (by simp)
    have hr := words_dot w r (fun x hx => h x (by simp [hx]))
    simp only [List.cons_append, words, if_neg hc, hr]
theorem words_join : ∀ (ws : List (List UInt8)), ws ≠ [] → (∀ w ∈ ws, ∀ c ∈ w, c ≠ 46) → words (join ws) = ws
  | [], h, _ => absurd rfl h
  | [w], _, h => words_noDot w (h w (by simp))
  | w :: v :: ws, _, h => by
    rw [join, words_dot w _ (h w (by simp)), words_join (v :: ws) (by simp) (fun x hx => h x (by simp at hx ⊢; exact Or.inr hx))]
theorem join_words : ∀ l, join (words l) = l
  | [] => rfl
  | c :: r => by
    have ih := join_words r
    unfold words
    split
    · next hc =>
      subst hc
      cases hw : words r with
      | nil => exact absurd hw (words_ne r)
      | cons w ws => rw [join, ← hw, ih]; rfl
    · cases hw : words r with
      | nil => exact absurd hw (words_ne r)
      | cons w ws =>
        rw [hw] at ih
        cases ws with
        | nil => simpa [join] using congrArg (c :: ·) ih
        | cons v vs =>
          show join ((c :: w) :: v :: vs) = c :: r
          rw [join] at ih ⊢
          rw [← ih]; rfl
theorem words_first : ∀ l, ∃ w, (∀ c ∈ w, c ≠ 46) ∧ ((l = w ∧ words l = [w]) ∨ ∃ r, l = w ++ 46 :: r ∧ words l = w :: words r)
  | [] => ⟨[], fun c hc => (by cases hc), Or.inl ⟨rfl, rfl⟩⟩
  | c :: r => by
    by_cases hc : c = 46
    · subst hc
      exact ⟨[], fun c hc => (by cases hc), Or.inr ⟨r, rfl, by simp [words]⟩⟩
    · obtain ⟨w, h1, h2⟩ := words_first r
      have h1' : ∀ x ∈ c :: w, x ≠ 46 := fun x hx => by
        rcases List.mem_cons.1 hx with rfl | hx
        · exact hc
        · exact h1 x hx
      rcases h2 with ⟨rfl, h3⟩ | ⟨k, rfl, h3⟩
      · exact ⟨c :: r, h1', Or.inl ⟨rfl, words_noDot _ h1'⟩⟩
      · exact ⟨c :: w, h1', Or.inr ⟨k, rfl, words_dot (c :: w) k h1'⟩⟩

/-- The numbers of all the words, if all are numerals. -/
def nums : List (List UInt8) → Option (List Nat)
  | [] => some []
  | w :: ws => match numL w with
    | none => none
    | some n => match nums ws with
      | none => none
      | some ns => some (n :: ns)
theorem nums_snoc (ws : List (List UInt8)) (w : List UInt8) (ns : List Nat) (n : Nat) (h : nums ws = some ns) (hw : numL w = some n) : nums (ws ++ [w]) = some (ns ++ [n]) := by
  induction ws generalizing ns with
  | nil =>
    simp only [nums, Option.some.injEq] at h
    subst h
    simp [nums, hw]
  | cons v vs ih =>
    simp only [nums] at h
    simp only [List.cons_append, nums]
    cases hv : numL v with
    | none => rw [hv] at h; cases h
    | some m =>
      rw [hv] at h
      simp only at h ⊢
      cases hvs : nums vs with
      | none => rw [hvs] at h; cases h
      | some ms =>
        rw [hvs] at h
        simp only [Option.some.injEq] at h
        subst h
        rw [ih ms hvs]
        rfl
theorem nums_bad (ws : List (List UInt8)) (w : List UInt8) (rest : List (List UInt8)) (hw : numL w = none) : nums (ws ++ w :: rest) = none := by
  induction ws with
  | nil => simp [nums, hw]
  | cons v vs ih =>
    simp only [List.cons_append, nums, ih]
    cases numL v <;> rfl
theorem nums_length : ∀ (ws : List (List UInt8)) (ns : List Nat), nums ws = some ns → ns.length = ws.length
  | [], ns, h => by simp only [nums, Option.some.injEq] at h; subst h; rfl
  | w :: ws, ns, h => by
    simp only [nums] at h
    cases hw : numL w with
    | none => rw [hw] at h; cases h
    | some n =>
      rw [hw] at h
      simp only at h
      cases hs : nums ws with
      | none => rw [hs] at h; cases h
      | some ms =>
        rw [hs] at h
        simp only [Option.some.injEq] at h
        subst h
        simp [nums_length ws ms hs]
theorem nums_dec : ∀ (ns : List Nat), (∀ n ∈ ns, n < 18446744073709551616) → nums (ns.map Lib.decDigits) = some ns
  | [], _ => rfl
  | n :: ns, h => by
    simp only [List.map_cons, nums, numL_dec (h n (by simp)), nums_dec ns (fun m hm => h m (by simp [hm]))]
theorem nums_words : ∀ (ws : List (List UInt8)) (ns : List Nat), nums ws = some ns → ws = ns.map Lib.decDigits ∧ ∀ n ∈ ns, n < 18446744073709551616
  | [], ns, h => by
    simp only [nums, Option.some.injEq] at h; subst h; exact ⟨rfl, fun n hn => (by cases hn)⟩
  | w :: ws, ns, h => by
    simp only [nums] at h
    cases hw : numL w with
    | none => rw [hw] at h; cases h
    | some n =>
      rw [hw] at h
      simp only at h
      cases hs : nums ws with
      | none => rw [hs] at h; cases h
      | some ms =>
        rw [hs] at h
        simp only [Option.some.injEq] at h
        subst h
        obtain ⟨h1, h2⟩ := nums_words ws ms hs
        obtain ⟨h3, h4, _⟩ := numL_some hw
        refine ⟨by rw [List.map_cons, ← h1, ← h3], fun m hm => ?_⟩
        rcases List.mem_cons.1 hm with rfl | hm
        · exact h4
        · exact h2 m hm
/-- The vector of a text: eight numerals. -/
def readL (l : List UInt8) : Option (List Nat) := if (words l).length = 8 then nums (words l) else none
theorem dec_noDot (n : Nat) : ∀ c ∈ Lib.decDigits n, c ≠ 46 := fun c hc e => by
  have := (dec_facts n).1 c hc
  subst e
  unfold isDig at this
  have : (46 : UInt8).toNat = 46 := rfl
  omega
theorem readL_join (ns : List Nat) (h8 : ns.length = 8) (h : ∀ n ∈ ns, n < 18446744073709551616) : readL (join (ns.map Lib.decDigits)) = some ns := by
  have hw : words (join (ns.map Lib.decDigits)) = ns.map Lib.decDigits := words_join _ (by intro e; have := congrArg List.length e; simp at this; subst this; simp at h8) (fun w hw c hc => by
    obtain ⟨n, _, rfl⟩ := List.mem_map.1 hw
    exact dec_noDot n c hc)
  rw [readL, hw, if_pos (by simpa using h8), nums_dec ns h]
theorem readL_some {l : List UInt8} {ns : List Nat} (h : readL l = some ns) : ns.length = 8 ∧ join (ns.map Lib.decDigits) = l ∧ ∀ n ∈ ns, n < 18446744073709551616 := by
  unfold readL at h
  split at h
  · next h8 =>
    obtain ⟨h1, h2⟩ := nums_words _ _ h
    refine ⟨by rw [nums_length _ _ h, h8], ?_, h2⟩
    rw [← h1, join_words]
  · cases h
end Go.Proofs.YtioldhhnkeakcaaDoor.PV
