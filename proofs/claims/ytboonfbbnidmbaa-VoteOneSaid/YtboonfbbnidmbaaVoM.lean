/- Mathematics of one decision: majorities meet; askings, promises, votes; no two values are chosen. -/
import Derived.Lib.Hide
namespace Go.Proofs.Ytboonfbbnidmbaa.Vo

/-- How many of the numbers below k are told. -/
def cnt (S : Nat → Bool) : Nat → Nat
  | 0 => 0
  | k + 1 => cnt S k + (if S k then 1 else 0)
theorem cnt_le (S : Nat → Bool) : ∀ k, cnt S k ≤ k
  | 0 => Nat.le_refl _
  | k + 1 => by
    have := cnt_le S k
    simp only [cnt]
    split <;> omega
theorem cnt_mono {S T : Nat → Bool} (h : ∀ m, S m = true → T m = true) : ∀ k, cnt S k ≤ cnt T k
  | 0 => Nat.le_refl _
  | k + 1 => by
    have := cnt_mono h k
    simp only [cnt]
    have := h k
    rcases hs : S k <;> rcases ht : T k <;> simp_all <;> omega
theorem cnt_congr {S T : Nat → Bool} {k : Nat} (h : ∀ m, m < k → S m = T m) : cnt S k = cnt T k := by
  induction k with
  | zero => rfl
  | succ k ih => simp only [cnt]; rw [ih (fun m hm => h m (by omega)), h k (by omega)]
theorem cnt_two (S T : Nat → Bool) : ∀ k, cnt S k + cnt T k = cnt (fun m => S m && T m) k + cnt (fun m => S m || T m) k
  | 0 => rfl
  | k + 1 => by
    have := cnt_two S T k
    simp only [cnt]
    by_cases hs : S k = true <;> by_cases ht : T k = true <;> simp [hs, ht] <;> omega
theorem cnt_pos {S : Nat → Bool} : ∀ {k}, 0 < cnt S k → ∃ m, m < k ∧ S m = true
  | 0, h => absurd h (Nat.lt_irrefl _)
  | k + 1, h => by
    simp only [cnt] at h
    by_cases hs : S k = true
    · exact ⟨k, by omega, hs⟩
    · rw [if_neg hs] at h
      obtain ⟨m, h1, h2⟩ := cnt_pos (S := S) (k := k) (by omega)
      exact ⟨m, by omega, h2⟩

/-- Is the crowd more than half of the set? -/
def majB (set S : Nat → Bool) : Bool := decide (cnt set 8 < 2 * cnt (fun m => set m && S m) 8)
theorem majB_mono {set S T : Nat → Bool} (h : ∀ m, m < 8 → S m = true → T m = true) (hs : majB set S = true) : majB set T = true := by
  unfold majB at *
  have hs := of_decide_eq_true hs
  have h1 : cnt (fun m => set m && S m) 8 ≤ cnt (fun m => set m && T m) 8 := by
    have e : cnt (fun m => set m && S m) 8 = cnt (fun m => decide (m < 8) && (set m && S m)) 8 := cnt_congr fun m hm => by simp [hm]
    rw [e]
    refine cnt_mono (fun m hm => ?_) 8
    simp only [Bool.and_eq_true, decide_eq_true_eq] at hm ⊢
    exact ⟨hm.2.1, h m hm.1 hm.2.2⟩
  exact decide_eq_true (by omega)
theorem majB_meet {set S T : Nat → Bool} (hs : majB set S = true) (ht : majB set T = true) : ∃ m, m < 8 ∧ set m = true ∧ S m = true ∧ T m = true := by
  unfold majB at hs ht
  have hs := of_decide_eq_true hs
  have ht := of_decide_eq_true ht
  have h2 := cnt_two (fun m => set m && S m) (fun m => set m && T m) 8
  have h3 : cnt (fun m => (set m && S m) || (set m && T m)) 8 ≤ cnt set 8 := cnt_mono (fun m hm => by
    rcases h : set m <;> simp_all) 8
  obtain ⟨m, h4, h5⟩ := cnt_pos (S := fun m => (set m && S m) && (set m && T m)) (k := 8) (by omega)
  simp only [Bool.and_eq_true] at h5
  exact ⟨m, h4, h5.1.1, h5.1.2, h5.2.2⟩
theorem majB_some {set S : Nat → Bool} (hs : majB set S = true) : ∃ m, m < 8 ∧ set m = true ∧ S m = true := by
  obtain ⟨m, h1, h2, h3, _⟩ := majB_meet hs hs
  exact ⟨m, h1, h2, h3⟩

/-- A vote. -/
structure Vt where
  who : Int
  bal : Nat
  at' : Nat
  val : ByteArray
/-- Is a member among those who gave these votes? -/
def crowdP (p : Vt → Bool) (L : List Vt) (m : Nat) : Bool := L.any fun v => decide (v.who = (m : Int)) && p v
theorem crowdP_iff {p : Vt → Bool} {L : List Vt} {m : Nat} : crowdP p L m = true ↔ ∃ v ∈ L, v.who = (m : Int) ∧ p v = true := by
  unfold crowdP
  rw [List.any_eq_true]
  simp
def sameBal (b : Nat) (v : Vt) : Bool := decide (v.bal = b)
def sameFor (b : Nat) (x : ByteArray) (v : Vt) : Bool := decide (v.bal = b) && decide (v.val = x)
/-- Is the vote one of this ballot by a member of the set? -/
def counts (set : Nat → Bool) (b : Nat) (v : Vt) : Bool := decide (0 ≤ v.who) && (decide (v.who < 8) && (set v.who.toNat && decide (v.bal = b)))
/-- What was accepted last by those that count: at which ballot, and what. -/
def best (set : Nat → Bool) (b : Nat) : List Vt → Nat × ByteArray → Nat × ByteArray
  | [], l => l
  | v :: r, l => best set b r (if counts set b v && decide (l.1 < v.at') then (v.at', v.val) else l)
theorem best_snoc (set : Nat → Bool) (b : Nat) (v : Vt) : ∀ (L : List Vt) (l : Nat × ByteArray), best set b (L ++ [v]) l = if counts set b v && decide ((best set b L l).1 < v.at') then (v.at', v.val) else best set b L l
  | [], _ => rfl
  | _ :: r, _ => best_snoc set b v r _
def pickO (set : Nat → Bool) (b : Nat) (L : List Vt) (own : ByteArray) : Option ByteArray :=
  if majB set (crowdP (sameBal b) L) then some (best set b L (0, own)).2 else none
theorem best_ge (set : Nat → Bool) (b : Nat) : ∀ (L : List Vt) (l : Nat × ByteArray), l.1 ≤ (best set b L l).1 ∧ ∀ v ∈ L, counts set b v = true → v.at' ≤ (best set b L l).1
  | [], l => ⟨Nat.le_refl _, by simp⟩
  | u :: r, l => by
    have h := best_ge set b r (if counts set b u && decide (l.1 < u.at') then (u.at', u.val) else l)
    have h1 : l.1 ≤ (if counts set b u && decide (l.1 < u.at') then (u.at', u.val) else l).1 := by
      split
      · next q => simp only [Bool.and_eq_true, decide_eq_true_eq] at q; exact Nat.le_of_lt q.2
      · exact Nat.le_refl _
    have h2 : counts set b u = true → u.at' ≤ (if counts set b u && decide (l.1 < u.at') then (u.at', u.val) else l).1 := fun hc => by
      split
      · exact Nat.le_refl _
      · next q => simp only [Bool.and_eq_true, decide_eq_true_eq, hc, true_and] at q; omega
    refine ⟨Nat.le_trans h1 h.1, fun v hv hc => ?_⟩
    rcases List.mem_cons.1 hv with rfl | hv
    · exact Nat.le_trans (h2 hc) h.1
    · exact h.2 v hv hc
theorem best_of (set : Nat → Bool) (b : Nat) : ∀ (L : List Vt) (l : Nat × ByteArray), best set b L l = l ∨ ∃ v ∈ L, counts set b v = true ∧ l.1 < v.at' ∧ best set b L l = (v.at', v.val)
  | [], l => .inl rfl
  | u :: r, l => by
    by_cases q : (counts set b u && decide (l.1 < u.at')) = true
    · have e : best set b (u :: r) l = best set b r (u.at', u.val) := by simp only [best]; rw [if_pos q]
      simp only [Bool.and_eq_true, decide_eq_true_eq] at q
      rcases best_of set b r (u.at', u.val) with h | ⟨v, hv, hc, hl, h⟩
      · exact .inr ⟨u, by simp, q.1, q.2, by rw [e, h]⟩
      · exact .inr ⟨v, by simp [hv], hc, by simp only at hl; omega, by rw [e, h]⟩
    · have e : best set b (u :: r) l = best set b r l := by simp only [best]; rw [if_neg q]
      rcases best_of set b r l with h | ⟨v, hv, hc, hl, h⟩
      · exact .inl (by rw [e, h])
      · exact .inr ⟨v, by simp [hv], hc, hl, by rw [e, h]⟩
/-- Has a majority votes like this one? -/
def wins (set : Nat → Bool) (L : List Vt) (v : Vt) : Bool := majB set (crowdP (sameFor v.bal v.val) L)
def chosenO (set : Nat → Bool) (L : List Vt) : Option ByteArray := (L.find? (wins set L)).map (·.val)
theorem chosenO_some {set : Nat → Bool} {L : List Vt} {x : ByteArray} (h : chosenO set L = some x) : ∃ v ∈ L, wins set L v = true ∧ v.val = x := by
  unfold chosenO at h
  rcases q : L.find? (wins set L) with _ | v
  · rw [q] at h; cases h
  · rw [q] at h
    exact ⟨v, List.mem_of_find?_eq_some q, List.find?_some q, Option.some.inj h⟩

/-- An acceptor. -/
structure Ac where
  pr : Nat
  at' : Nat
  val : ByteArray
/-- An asking. -/
structure Ask where
  bal : Nat
  own : ByteArray
  votes : List Vt
  picked : Bool
  val : ByteArray
/-- All that a play has made. -/
structure Pl where
  acc : Nat → Ac
  asked : List Ask
  said : List Vt
def noAc : Ac := ⟨0, 0, ⟨#[]⟩⟩
def pl0 : Pl := ⟨fun _ => noAc, [], []⟩
def setF (f : Nat → Ac) (m : Nat) (a : Ac) : Nat → Ac := fun i => if i = m then a else f i
def own26 (which : Nat) : ByteArray := ⟨#[UInt8.ofNat (97 + which % 26)]⟩
/-- One more of the play: a new asking. -/
def stNew (p : Pl) (who which : Nat) : Pl := { p with asked := p.asked ++ [⟨8 * (1 + p.asked.length) + who, own26 which, [], false, ⟨#[]⟩⟩] }
def stPrep (p : Pl) (who k : Nat) (q : Ask) : Pl :=
  if (p.acc who).pr < q.bal then
    { p with acc := setF p.acc who { p.acc who with pr := q.bal }, asked := p.asked.set k { q with votes := q.votes ++ [⟨(who : Int), q.bal, (p.acc who).at', (p.acc who).val⟩] } }
  else p
def stPick (set : Nat → Bool) (p : Pl) (k : Nat) (q : Ask) : Pl :=
  match pickO set q.bal q.votes q.own with
  | none => p
  | some v => if q.picked then p else { p with asked := p.asked.set k { q with picked := true, val := v } }
def stAcc (p : Pl) (who : Nat) (q : Ask) : Pl :=
  if q.picked && decide ((p.acc who).pr ≤ q.bal) && decide (q.bal ≠ 0) then
    { p with acc := setF p.acc who ⟨q.bal, q.bal, q.val⟩, said := p.said ++ [⟨(who : Int), q.bal, 0, q.val⟩] }
  else p
/-- What three bytes of the play do. -/
def stStep (set : Nat → Bool) (p : Pl) (what who which : Nat) : Pl :=
  if what = 0 ∨ p.asked.length = 0 then stNew p who which else
  match p.asked[which % p.asked.length]? with
  | none => p
  | some q => if what = 1 then stPrep p who (which % p.asked.length) q else if what = 2 then stPick set p (which % p.asked.length) q else stAcc p who q

/-- What holds of all that a play makes. -/
structure Inv (set : Nat → Bool) (p : Pl) : Prop where
  ball : ∀ k (h : k < p.asked.length), 8 * (1 + k) ≤ (p.asked[k]).bal ∧ (p.asked[k]).bal < 8 * (1 + k) + 8
  prom : ∀ (k : Nat) (h : k < p.asked.length), ∀ v ∈ (p.asked[k]).votes, ∃ m : Nat, m < 8 ∧ v.who = (m : Int) ∧ v.bal = (p.asked[k]).bal ∧ v.at' < v.bal ∧ v.bal ≤ (p.acc m).pr ∧
    (v.at' = 0 ∨ ∃ s ∈ p.said, s.who = (m : Int) ∧ s.bal = v.at' ∧ s.val = v.val) ∧ ∀ s ∈ p.said, s.who = (m : Int) → s.bal < v.bal → s.bal ≤ v.at'
  acc : ∀ m, m < 8 → (p.acc m).at' ≤ (p.acc m).pr ∧ ((p.acc m).at' = 0 ∨ ∃ s ∈ p.said, s.who = (m : Int) ∧ s.bal = (p.acc m).at' ∧ s.val = (p.acc m).val) ∧ ∀ s ∈ p.said, s.who = (m : Int) → s.bal ≤ (p.acc m).at'
  said : ∀ s ∈ p.said, ∃ (m : Nat) (k : Nat) (h : k < p.asked.length), m < 8 ∧ s.who = (m : Int) ∧ (p.asked[k]).bal = s.bal ∧ (p.asked[k]).picked = true ∧ (p.asked[k]).val = s.val
  pick : ∀ (k : Nat) (h : k < p.asked.length), (p.asked[k]).picked = true → ∃ P : List Vt, (∀ v ∈ P, v ∈ (p.asked[k]).votes) ∧ pickO set (p.asked[k]).bal P (p.asked[k]).own = some (p.asked[k]).val

theorem inv0 (set : Nat → Bool) : Inv set pl0 where
  ball _ h := absurd h (Nat.not_lt_zero _)
  prom _ h := absurd h (Nat.not_lt_zero _)
  acc _ _ := ⟨Nat.le_refl _, .inl rfl, fun _ hs => absurd hs List.not_mem_nil⟩
  said _ hs := absurd hs List.not_mem_nil
  pick _ h := absurd h (Nat.not_lt_zero _)
theorem Inv.uniq {set : Nat → Bool} {p : Pl} (I : Inv set p) {j k : Nat} (hj : j < p.asked.length) (hk : k < p.asked.length) (e : (p.asked[j]).bal = (p.asked[k]).bal) : j = k := by
  have h1 := I.ball j hj
  have h2 := I.ball k hk
  omega
theorem inv_new {set : Nat → Bool} {p : Pl} (I : Inv set p) (who which : Nat) (hw : who < 8) : Inv set (stNew p who which) := by
  have hl : (stNew p who which).asked.length = p.asked.length + 1 := by simp [stNew]
  have ha : ∀ (k : Nat) (h : k < (stNew p who which).asked.length), ((∃ h' : k < p.asked.length, (stNew p who which).asked[k] = p.asked[k]) ∨ (k = p.asked.length ∧ (stNew p who which).asked[k] = ⟨8 * (1 + p.asked.length) + who, own26 which, [], false, ⟨#[]⟩⟩)) := by
    intro k h
    by_cases hk : k < p.asked.length
    · exact .inl ⟨hk, by simp only [stNew]; rw [List.getElem_append_left hk]⟩
    · have e : k = p.asked.length := by omega
      subst e
      exact .inr ⟨rfl, by simp [stNew]⟩
  refine ⟨fun k h => ?_, fun k h => ?_, I.acc, fun s hs => ?_, fun k h => ?_⟩
  · rcases ha k h with ⟨h', e⟩ | ⟨rfl, e⟩
    · rw [e]; exact I.ball k h'
    · rw [e]; constructor <;> (simp only; omega)
  · rcases ha k h with ⟨h', e⟩ | ⟨rfl, e⟩
    · rw [e]; exact I.prom k h'
    · rw [e]; intro v hv; exact absurd hv List.not_mem_nil
  · obtain ⟨m, k, h, h1, h2, h3, h4, h5⟩ := I.said s hs
    refine ⟨m, k, by omega, h1, h2, ?_⟩
    rcases ha k (by omega) with ⟨h', e⟩ | ⟨e', _⟩
    · rw [e]; exact ⟨h3, h4, h5⟩
    · omega
  · rcases ha k h with ⟨h', e⟩ | ⟨rfl, e⟩
    · rw [e]; exact I.pick k h'
    · rw [e]; intro q; cases q
theorem getElem_set {L : List Ask} {k : Nat} {q' : Ask} {j : Nat} (h : j < (L.set k q').length) : (j = k ∧ (L.set k q')[j] = q') ∨ (j ≠ k ∧ ∃ h' : j < L.length, (L.set k q')[j] = L[j]) := by
  by_cases e : j = k
  · subst e
    exact .inl ⟨rfl, by simp⟩
  · exact .inr ⟨e, by simpa using h, by rw [List.getElem_set_ne (Ne.symm e)]⟩
theorem inv_prep {set : Nat → Bool} {p : Pl} (I : Inv set p) (who k : Nat) (q : Ask) (hw : who < 8) (hk : k < p.asked.length) (hq : p.asked[k] = q) : Inv set (stPrep p who k q) := by
  unfold stPrep
  by_cases hlt : (p.acc who).pr < q.bal
  case neg => rw [if_neg hlt]; exact I
  rw [if_pos hlt]
  obtain ⟨a1, a2, a3⟩ := I.acc who hw
  refine ⟨fun j h => ?_, fun j h v hv => ?_, fun m hm => ?_, fun s hs => ?_, fun j h hp => ?_⟩
  · rcases getElem_set h with ⟨rfl, e⟩ | ⟨_, h', e⟩
    · simp only [e]
      rw [← hq]; exact I.ball j hk
    · simp only [e]; exact I.ball j h'
  · have old : ∀ (j' : Nat) (h' : j' < p.asked.length) (v : Vt), v ∈ (p.asked[j']).votes → ∃ m : Nat, m < 8 ∧ v.who = (m : Int) ∧ v.bal = (p.asked[j']).bal ∧ v.at' < v.bal ∧ v.bal ≤ (setF p.acc who { p.acc who with pr := q.bal } m).pr ∧
        (v.at' = 0 ∨ ∃ s ∈ p.said, s.who = (m : Int) ∧ s.bal = v.at' ∧ s.val = v.val) ∧ ∀ s ∈ p.said, s.who = (m : Int) → s.bal < v.bal → s.bal ≤ v.at' := by
      intro j' h' v hv
      obtain ⟨m, b1, b2, b3, b4, b5, b6, b7⟩ := I.prom j' h' v hv
      refine ⟨m, b1, b2, b3, b4, ?_, b6, b7⟩
      unfold setF
      split
      · next e => subst e; simp only; omega
      · exact b5
    rcases getElem_set h with ⟨rfl, e⟩ | ⟨_, h', e⟩
    · simp only [e] at hv ⊢
      rcases List.mem_append.1 hv with hv | hv
      · rw [← hq] at hv
        have := old j hk v hv
        rw [hq] at this
        exact this
      · rw [List.mem_singleton] at hv
        subst hv
        refine ⟨who, hw, rfl, rfl, by simp only; omega, ?_, a2, fun s hs h1 _ => a3 s hs h1⟩
        unfold setF
        rw [if_pos rfl]
        exact Nat.le_refl _
    · simp only [e] at hv ⊢
      exact old j h' v hv
  · simp only [setF]
    split
    · next e => subst e; exact ⟨by simp only; omega, a2, a3⟩
    · exact I.acc m hm
  · obtain ⟨m, j, h, h1, h2, h3, h4, h5⟩ := I.said s hs
    refine ⟨m, j, by simpa using h, h1, h2, ?_⟩
    rcases getElem_set (L := p.asked) (k := k) (q' := { q with votes := q.votes ++ [⟨(who : Int), q.bal, (p.acc who).at', (p.acc who).val⟩] }) (j := j) (by simpa using h) with ⟨rfl, e⟩ | ⟨_, h', e⟩
    · simp only [e]
      subst hq
      exact ⟨h3, h4, h5⟩
    · simp only [e]; exact ⟨h3, h4, h5⟩
  · rcases getElem_set h with ⟨rfl, e⟩ | ⟨_, h', e⟩
    · simp only [e] at hp ⊢
      subst hq
      obtain ⟨P, h1, h2⟩ := I.pick j hk hp
      exact ⟨P, fun v hv => List.mem_append_left _ (h1 v hv), h2⟩
    · simp only [e] at hp ⊢
      exact I.pick j h' hp
theorem inv_pick {set : Nat → Bool} {p : Pl} (I : Inv set p) (k : Nat) (q : Ask) (hk : k < p.asked.length) (hq : p.asked[k] = q) : Inv set (stPick set p k q) := by
  unfold stPick
  rcases hx : pickO set q.bal q.votes q.own with _ | x
  · exact I
  simp only
  by_cases hpk : q.picked = true
  · rw [if_pos hpk]; exact I
  rw [if_neg hpk]
  refine ⟨fun j h => ?_, fun j h v hv => ?_, I.acc, fun s hs => ?_, fun j h hp => ?_⟩
  · rcases getElem_set h with ⟨rfl, e⟩ | ⟨_, h', e⟩
    · simp only [e]
      rw [← hq]; exact I.ball j hk
    · simp only [e]; exact I.ball j h'
  · rcases getElem_set h with ⟨rfl, e⟩ | ⟨_, h', e⟩
    · simp only [e] at hv ⊢
      subst hq
      exact I.prom j hk v hv
    · simp only [e] at hv ⊢
      exact I.prom j h' v hv
  · obtain ⟨m, j, h, h1, h2, h3, h4, h5⟩ := I.said s hs
    refine ⟨m, j, by simpa using h, h1, h2, ?_⟩
    rcases getElem_set (L := p.asked) (k := k) (q' := { q with picked := true, val := x }) (j := j) (by simpa using h) with ⟨rfl, e⟩ | ⟨_, h', e⟩
    · subst hq
      exact absurd h4 hpk
    · simp only [e]; exact ⟨h3, h4, h5⟩
  · rcases getElem_set h with ⟨rfl, e⟩ | ⟨_, h', e⟩
    · simp only [e] at hp ⊢
      exact ⟨q.votes, fun v hv => hv, hx⟩
    · simp only [e] at hp ⊢
      exact I.pick j h' hp
theorem inv_acc {set : Nat → Bool} {p : Pl} (I : Inv set p) (who k : Nat) (q : Ask) (hw : who < 8) (hk : k < p.asked.length) (hq : p.asked[k] = q) : Inv set (stAcc p who q) := by
  unfold stAcc
  by_cases hc : (q.picked && decide ((p.acc who).pr ≤ q.bal) && decide (q.bal ≠ 0)) = true
  case neg => rw [if_neg hc]; exact I
  rw [if_pos hc]
  simp only [Bool.and_eq_true, decide_eq_true_eq] at hc
  obtain ⟨⟨c1, c2⟩, c3⟩ := hc
  obtain ⟨a1, a2, a3⟩ := I.acc who hw
  refine ⟨I.ball, fun j h v hv => ?_, fun m hm => ?_, fun s hs => ?_, I.pick⟩
  · obtain ⟨m, b1, b2, b3, b4, b5, b6, b7⟩ := I.prom j h v hv
    refine ⟨m, b1, b2, b3, b4, ?_, ?_, fun s hs h1 h2 => ?_⟩
    · simp only [setF]
      split
      · next e => subst e; simp only; omega
      · exact b5
    · rcases b6 with b6 | ⟨s, s1, s2⟩
      · exact .inl b6
      · exact .inr ⟨s, List.mem_append_left _ s1, s2⟩
    · rcases List.mem_append.1 hs with hs | hs
      · exact b7 s hs h1 h2
      · rw [List.mem_singleton] at hs
        subst hs
        simp only at h1 h2 ⊢
        have e : who = m := Int.ofNat.inj h1
        subst e
        omega
  · simp only [setF]
    by_cases e : m = who
    · subst e
      rw [if_pos rfl]
      refine ⟨Nat.le_refl _, .inr ⟨_, List.mem_append_right _ (List.mem_singleton.2 rfl), rfl, rfl, rfl⟩, fun s hs h1 => ?_⟩
      rcases List.mem_append.1 hs with hs | hs
      · have := a3 s hs h1
        simp only
        omega
      · rw [List.mem_singleton] at hs
        subst hs
        exact Nat.le_refl _
    · rw [if_neg e]
      obtain ⟨b1, b2, b3⟩ := I.acc m hm
      refine ⟨b1, ?_, fun s hs h1 => ?_⟩
      · rcases b2 with b2 | ⟨s, s1, s2⟩
        · exact .inl b2
        · exact .inr ⟨s, List.mem_append_left _ s1, s2⟩
      · rcases List.mem_append.1 hs with hs | hs
        · exact b3 s hs h1
        · rw [List.mem_singleton] at hs
          subst hs
          exact absurd (Int.ofNat.inj h1).symm e
  · rcases List.mem_append.1 hs with hs | hs
    · exact I.said s hs
    · rw [List.mem_singleton] at hs
      subst hs
      exact ⟨who, k, hk, hw, rfl, by rw [hq], by rw [hq]; exact c1, by rw [hq]⟩
theorem inv_step {set : Nat → Bool} {p : Pl} (I : Inv set p) (what who which : Nat) (hw : who < 8) : Inv set (stStep set p what who which) := by
  unfold stStep
  split
  · exact inv_new I who which hw
  · rcases hq : p.asked[which % p.asked.length]? with _ | q
    · exact I
    · obtain ⟨hk, hq⟩ := List.getElem?_eq_some_iff.1 hq
      simp only
      split
      · exact inv_prep I who _ q hw hk hq
      · split
        · exact inv_pick I _ q hk hq
        · exact inv_acc I who _ q hw hk hq

/-- Has a majority accepted this by that ballot? -/
def won (set : Nat → Bool) (L : List Vt) (b : Nat) (x : ByteArray) : Bool := majB set (crowdP (sameFor b x) L)
theorem sameFor_iff {b : Nat} {x : ByteArray} {v : Vt} : sameFor b x v = true ↔ v.bal = b ∧ v.val = x := by simp [sameFor]
theorem later {set : Nat → Bool} {p : Pl} (I : Inv set p) {b : Nat} {x : ByteArray} (hw : won set p.said b x = true) (hb : 0 < b) :
    ∀ n, ∀ (k : Nat) (h : k < p.asked.length), (p.asked[k]).bal = n → b < n → (p.asked[k]).picked = true → (p.asked[k]).val = x := by
  intro n
  induction n using Nat.strongRecOn with
  | _ n ih =>
    intro k h hn hlt hp
    obtain ⟨P, hP, hx⟩ := I.pick k h hp
    unfold pickO at hx
    split at hx
    case isFalse => cases hx
    next hmaj =>
    have hx := Option.some.inj hx
    obtain ⟨m, m1, m2, m3, m4⟩ := majB_meet hmaj hw
    obtain ⟨u, u1, u2, u3⟩ := crowdP_iff.1 m3
    obtain ⟨s, s1, s2, s3⟩ := crowdP_iff.1 m4
    obtain ⟨s3, s4⟩ := sameFor_iff.1 s3
    have u3 : u.bal = (p.asked[k]).bal := by simpa [sameBal] using u3
    obtain ⟨m', c1, c2, c3, c4, c5, c6, c7⟩ := I.prom k h u (hP u u1)
    have e : m' = m := by
      rw [u2] at c2
      exact (Int.ofNat.inj c2).symm
    subst e
    have hge := c7 s s1 s2 (by omega)
    have hcu : counts set (p.asked[k]).bal u = true := by
      unfold counts
      rw [u2]
      simp only [Bool.and_eq_true, decide_eq_true_eq, Int.toNat_natCast]
      exact ⟨by omega, by omega, m2, u3⟩
    have hbe := (best_ge set (p.asked[k]).bal P (0, (p.asked[k]).own)).2 u u1 hcu
    rcases best_of set (p.asked[k]).bal P (0, (p.asked[k]).own) with hno | ⟨w, w1, w2, w3, hbv⟩
    · rw [hno] at hbe
      simp only at hbe
      omega
    · rw [hbv] at hx hbe
      simp only at hx hbe
      obtain ⟨m2', d1, d2, d3, d4, d5, d6, d7⟩ := I.prom k h w (hP w w1)
      rcases d6 with d6 | ⟨t, t1, t2, t3, t4⟩
      · omega
      · obtain ⟨_, j, hj, _, _, j1, j2, j3⟩ := I.said t t1
        by_cases hwb : w.at' = b
        · obtain ⟨_, i, hi, _, _, i1, i2, i3⟩ := I.said s s1
          have e : j = i := I.uniq hj hi (by omega)
          subst e
          rw [← hx, ← t4, ← j3, i3, s4]
        · have hv := ih w.at' (by omega) j hj (by omega) (by omega) j2
          rw [← hx, ← t4, ← j3, hv]
theorem one_value {set : Nat → Bool} {p : Pl} (I : Inv set p) {b b' : Nat} {x x' : ByteArray} (h : won set p.said b x = true) (h' : won set p.said b' x' = true) : x = x' := by
  have key : ∀ {b b' : Nat} {x x' : ByteArray}, won set p.said b x = true → won set p.said b' x' = true → b ≤ b' → x = x' := by
    intro b b' x x' h h' hle
    obtain ⟨m, m1, m2, m3⟩ := majB_some h
    obtain ⟨s, s1, s2, s3⟩ := crowdP_iff.1 m3
    obtain ⟨s3, s4⟩ := sameFor_iff.1 s3
    obtain ⟨m', m1', m2', m3'⟩ := majB_some h'
    obtain ⟨s', s1', s2', s3'⟩ := crowdP_iff.1 m3'
    obtain ⟨s3', s4'⟩ := sameFor_iff.1 s3'
    obtain ⟨_, i, hi, _, _, i1, i2, i3⟩ := I.said s s1
    obtain ⟨_, j, hj, _, _, j1, j2, j3⟩ := I.said s' s1'
    have hb := I.ball i hi
    by_cases e : b = b'
    · have : i = j := I.uniq hi hj (by omega)
      subst this
      rw [← s4, ← i3, j3, s4']
    · have := later I h (by omega) b' j hj (by omega) (by omega) j2
      rw [← this, j3, s4']
  rcases Nat.le_total b b' with hle | hle
  · exact key h h' hle
  · exact (key h' h hle).symm
/-- The votes for the same as this one. -/
def likeV (L : List Vt) (v : Vt) : List Vt := L.filter fun u => decide (u.bal = v.bal) && decide (u.val = v.val)
theorem only_one {set : Nat → Bool} {p : Pl} (I : Inv set p) {x : ByteArray} (h : chosenO set p.said = some x) (v : Vt) (_ : v ∈ p.said) (hne : v.val ≠ x) : chosenO set (likeV p.said v) = none := by
  rcases q : chosenO set (likeV p.said v) with _ | y
  · rfl
  · obtain ⟨s, s1, s2, s3⟩ := chosenO_some h
    obtain ⟨t, t1, t2, t3⟩ := chosenO_some q
    have ht := List.mem_filter.1 t1
    have ht2 := ht.2
    simp only [Bool.and_eq_true, decide_eq_true_eq] at ht2
    have hwin : won set p.said t.bal t.val = true := by
      refine majB_mono (fun m _ hm => ?_) t2
      obtain ⟨u, u1, u2, u3⟩ := crowdP_iff.1 hm
      exact crowdP_iff.2 ⟨u, (List.mem_filter.1 u1).1, u2, u3⟩
    have e := one_value I hwin s2
    rw [ht2.2, s3] at e
    exact absurd e hne
end Go.Proofs.Ytboonfbbnidmbaa.Vo
