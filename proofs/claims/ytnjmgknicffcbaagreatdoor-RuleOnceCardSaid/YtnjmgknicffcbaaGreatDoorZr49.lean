/- The laws' waking; the law RuleWholes. Walks: copies of rules, Same of two like lists. -/
import Derived.Test.YtnjmgknicffcbaaGreatDoorZr37
namespace Go.Proofs.YtnjmgknicffcbaaGreatDoor
open Go.RowKit Go.Joins
set_option linter.unusedSimpArgs false
set_option linter.unusedVariables false

theorem nil_empty : (⟨#[]⟩ : ByteArray).toList.isEmpty = true := by rw [ByteArray.toList_eq]; rfl
def sB : ByteArray := ⟨#[98]⟩
def sS : ByteArray := ⟨#[115]⟩
def r14a : RU := ⟨2, sB, ⟨#[]⟩, 0, 5⟩
def r14b : RU := ⟨3, sS, ⟨#[]⟩, 0, 0⟩
/-- The text that wakes. -/
def text14 : ByteArray := ⟨#[98, 111, 117, 110, 100, 32, 98, 32, 48, 32, 53, 10, 35, 32, 109, 111, 114, 101, 10, 115, 101, 116, 32, 115]⟩
def g14 : Nat → List RU
  | 0 => []
  | 1 => [r14a]
  | 2 => [r14a]
  | _ => [r14a, r14b]
theorem lines14 : PV.pieces 10 text14 = [⟨#[98, 111, 117, 110, 100, 32, 98, 32, 48, 32, 53]⟩, ⟨#[35, 32, 109, 111, 114, 101]⟩, ⟨#[115, 101, 116, 32, 115]⟩] := by
  rw [PV.pieces_eq]; decide +kernel
theorem tx_small {n : Nat} (h : n < 10) : tx (n : Int) = ⟨#[UInt8.ofNat (48 + n)]⟩ := by
  unfold tx
  rw [PV.itoa_pos (by omega), Int.toNat_natCast, Lib.decDigits_one h]
theorem words14a : PV.pieces 32 ⟨#[98, 111, 117, 110, 100, 32, 98, 32, 48, 32, 53]⟩ = wordsR r14a := by
  have e : wordsR r14a = [wBound, sB, tx 0, tx 5] := by
    show List.map (subR r14a) [wBound, sKEY, sMIN, sSTART] = _
    simp only [List.map_cons, List.map_nil, subR_key, subR_min, subR_start]
    rw [subR_word _ (by decide)]
    rfl
  rw [e, show tx 0 = _ from tx_small (n := 0) (by decide), show tx 5 = _ from tx_small (n := 5) (by decide), PV.pieces_eq]
  decide +kernel
theorem words14b : PV.pieces 32 ⟨#[115, 101, 116, 32, 115]⟩ = wordsR r14b := by
  have e : wordsR r14b = [wSet, sS] := by
    show List.map (subR r14b) [wSet, sKEY] = _
    simp only [List.map_cons, List.map_nil, subR_key]
    rw [subR_word _ (by decide)]
    rfl
  rw [e, PV.pieces_eq]
  decide +kernel
theorem parse14 : ParseS (PV.pieces 10 text14) g14 := by
  rw [lines14]
  refine ⟨rfl, fun k hk => ?_⟩
  match k, hk with
  | 0, _ => exact .inr ⟨rfl, r14a, by
      show ReadR (PV.pieces 32 ⟨#[98, 111, 117, 110, 100, 32, 98, 32, 48, 32, 53]⟩) r14a
      rw [words14a]
      exact readR_words (named_iff.2 ⟨by decide, .inl nil_empty, by decide, by decide⟩) (by unfold PV.inA; decide) (by unfold PV.inA; decide), rfl⟩
  | 1, _ => exact .inl ⟨rfl, rfl⟩
  | 2, _ => exact .inr ⟨rfl, r14b, by
      show ReadR (PV.pieces 32 ⟨#[115, 101, 116, 32, 115]⟩) r14b
      rw [words14b]
      exact readR_words (named_iff.2 ⟨by decide, .inl nil_empty, by decide, by decide⟩) (by unfold PV.inA; decide) (by unfold PV.inA; decide), rfl⟩
theorem f14a : fIdx [r14a, r14b] sB = some 0 := fIdx_some.2 ⟨by decide, isF_of (by decide) (by decide), fun q _ h => absurd h (Nat.not_lt_zero _)⟩
theorem f14b : fIdx [r14a, r14b] sS = some 1 := fIdx_some.2 ⟨by decide, isF_of (by decide) (by decide), fun q _ h => by
  obtain rfl : q = 0 := by omega
  show isF sS r14a = false
  unfold isF
  rw [eqS_dec]
  decide⟩
theorem check14 : checkC [r14a, r14b] = 0 := by
  unfold checkC
  rw [if_neg (by decide), if_pos (allAt_good fun j hj => ?_)]
  match j, hj with
  | 0, _ =>
    show mayB [r14a, r14b] 0 r14a = true
    unfold mayB
    rw [show namedB r14a = true from named_iff.2 ⟨by decide, .inl nil_empty, by decide, by decide⟩, show fInt [r14a, r14b] r14a.key = 0 from fInt_some f14a]
    decide
  | 1, _ =>
    show mayB [r14a, r14b] 1 r14b = true
    unfold mayB
    rw [show namedB r14b = true from named_iff.2 ⟨by decide, .inl nil_empty, by decide, by decide⟩, show fInt [r14a, r14b] r14b.key = 1 from fInt_some f14b]
    decide
theorem keys14 : ∀ r ∈ [r14a, r14b], r.key.size ≤ 9223372036854775807 := by
  intro r hr
  rcases List.mem_cons.1 hr with rfl | hr
  · decide
  · rcases List.mem_cons.1 hr with rfl | hr
    · decide
    · cases hr
theorem txm5 : tx (-5) = ⟨#[45, 53]⟩ := by
  unfold tx
  rw [PV.itoa_minus (by decide), show (-5 : Int).natAbs = 5 from rfl, Lib.decDigits_one (by decide)]
  rfl
set_option maxRecDepth 100000 in
set_option maxHeartbeats 1000000 in
theorem awake14_any (w : World) (hp : Laid w) :
    Calls Tryz.prog 14 #[] w fun e w' => e = .returned (.bool true) ∧ Gr w w' := by
  have HP := Lib.hid hp
  have hpa := parse_any text14 (by decide) g14 parse14 (by rw [lines14]; exact check14) (by rw [lines14]; intro r hr; exact keys14 r hr) w hp
  rw [lines14] at hpa
  have hpa : Calls Tryz.prog 20 #[.string text14] w fun e w' => ∃ A c, e = .returned (.tuple #[.slice A 2 c, .int .i64 0, .int .i64 0]) ∧ UO w' w.heap.size (.slice A 2 c) [r14a, r14b] ∧ Gr w w' := hpa
  unfold text14 at hpa
  have HPA := Lib.hid hpa
  have HFI := Lib.hid (fun v w hv => find_any v [r14a, r14b] sS w hv)
  rw [show fInt [r14a, r14b] sS = 1 from fInt_some f14b] at HFI
  unfold sS at HFI
  have HTX := Lib.hid (fun w hp => rutext_any (-5) (by decide) (by decide) w hp)
  have HTX : Hid (∀ w, Laid w → Calls Tryz.prog 47 #[.int .i64 (-5)] w fun e w' => e = .returned (.string ⟨#[45, 53]⟩) ∧ Gr w w') := Lib.hid (fun w hp => by have := HTX.out w hp; rw [show (⟨(Lib.itoa (-5)).toArray⟩ : ByteArray) = ⟨#[45, 53]⟩ from txm5] at this; exact this)
  clear hp hpa
  go_enter Tryz.func14, Tryz.ntmps14
  go_wp2_with fail
  refine HPA.out.mono ?_
  rintro e w1 ⟨A, c, rfl, hu, g1⟩
  have HU := Lib.hid hu
  have HG1 := Lib.hid g1
  obtain ⟨A', c', he, l1, ⟨l2, _⟩, l3⟩ := hu.uv
  injection he with e1 e2 e3
  subst e1 e3
  obtain ⟨b, off, rfl, c0, c1, c2, c3, c4⟩ := l3 0 (by decide)
  have c4 : w1.cell? ⟨b, off + 4, none⟩ = some (.int .i64 5) := by simpa [r14a] using c4
  have l1' : 2 ≤ c := l1
  have l2' : c ≤ 9223372036854775807 := l2
  clear hu g1 c0 c1 c2 c3 l3 l1 l2 e2
  go_wp2_with fail
  refine (HFI.out _ _ HU.out.uv).mono ?_
  rintro e w2 ⟨rfl, g2⟩
  have HG2 := Lib.hid (HG1.out.trans g2)
  clear g2 c4
  go_wp2_with fail
  refine (HTX.out _ (HP.out.gr HG2.out)).mono ?_
  rintro e w3 ⟨rfl, g3⟩
  have HG3 := Lib.hid (HG2.out.trans g3)
  clear g3
  go_wp2_with fail
  go_ret
  exact ⟨by first | rfl | simp, HG3.out⟩
end Go.Proofs.YtnjmgknicffcbaaGreatDoor
namespace Go.Proofs.YtnjmgknicffcbaaGreatDoor
open Go.RowKit Go.Joins
set_option linter.unusedSimpArgs false
set_option linter.unusedVariables false

theorem own_emptyU (w : World) : UO (w.alloc (.cells #[] 49)) w.heap.size (.slice (some ⟨w.heap.size, 0, none⟩) 0 0) [] :=
  World.ownsRow_made w #[] 0 (Nat.le_refl _) (Nat.zero_le _) rfl
set_option maxRecDepth 100000 in
theorem copied14_any (v : Value) (L : List RU) (hlen : (L.length + 1) * 56 ≤ 140737488355328) (w : World) (hv : UV w v L) :
    Calls Tryz.prog 16 #[v] w fun e w' => ∃ A c, e = .returned (.slice A L.length c) ∧ UO w' w.heap.size (.slice A L.length c) L ∧ Gr w w' := by
  have HV := Lib.hid (hv.gr (gr_box w (.cells #[] 49)))
  obtain ⟨A, c, rfl, -, -, -⟩ := hv
  obtain ⟨n, hn⟩ : ∃ n, n = L.length := ⟨_, rfl⟩
  have HN := Lib.hid hn
  rw [← hn] at HV ⊢
  clear hn
  go_enter Tryz.func16, Tryz.ntmps16
  go_wp2_with (at_builtin; refine wpList_push_u (w0 := w) rfl (.tmp 3) (.tmp 4) rfl (.slice (some ⟨w.heap.size, 0, none⟩) 0 0) (.slice A n c) [] L 0 n rfl HN.out rfl (own_emptyU w) rfl HV.out (by have := HN.out; omega) (gr_box w _) ?_)
  intro A9 c9 w9 hown9 hg9 hgrow9
  have HO := Lib.hid hown9
  have HG := Lib.hid hg9
  clear hown9 hg9 hgrow9
  go_wp2_with fail
  go_ret
  exact ⟨A9, c9, by simp, by have := HO.out; simpa using this, HG.out⟩
end Go.Proofs.YtnjmgknicffcbaaGreatDoor
