/- Walks over package rule: Parse, where it succeeds. Mathematics of a rule's words, read again; the laws' waking; the law RuleWholes. Mathematics of a printed catalogue: its words, its lines, read again. -/
import Derived.Test.YtnjmgknicffcbaaGreatDoorZr36
namespace Go.Proofs.YtnjmgknicffcbaaGreatDoor
open Go.RowKit Go.Joins
set_option linter.unusedSimpArgs false
set_option linter.unusedVariables false

/-- An empty line, or one that begins with #. -/
def skipB (s : ByteArray) : Bool := s.data.toList.isEmpty || (s.data.toList.headD 0 == 35)
/-- What the first k lines give. -/
structure ParseS (ls : List ByteArray) (g : Nat → List RU) : Prop where
  zero : g 0 = []
  step : ∀ k (hk : k < ls.length), (skipB ls[k] = true ∧ g (k + 1) = g k) ∨ (skipB ls[k] = false ∧ ∃ r, ReadR (PV.pieces 32 ls[k]) r ∧ g (k + 1) = g k ++ [r])
theorem ParseS.len {ls : List ByteArray} {g : Nat → List RU} (h : ParseS ls g) : ∀ k, k ≤ ls.length → (g k).length ≤ k
  | 0, _ => by rw [h.zero]; exact Nat.le_refl _
  | k + 1, hk => by
    have ih := h.len k (by omega)
    rcases h.step k (by omega) with ⟨_, e⟩ | ⟨_, r, _, e⟩
    · rw [e]; omega
    · rw [e, List.length_append, List.length_singleton]; omega
theorem skip_nil {x : ByteArray} (h : x.size = 0) : skipB x = true := by
  have : x.data.toList = [] := List.eq_nil_of_length_eq_zero (by rw [Array.length_toList]; exact h)
  unfold skipB; rw [this]; rfl
theorem skip_at {x : ByteArray} (h : 0 < x.size) : skipB x = ((x[0]).toNat == 35) := by
  unfold skipB
  have e : x.data.toList = x[0] :: x.data.toList.tail := by
    have hl : 0 < x.data.toList.length := by rw [Array.length_toList]; exact h
    cases hx : x.data.toList with
    | nil => rw [hx] at hl; exact absurd hl (Nat.lt_irrefl _)
    | cons a r =>
      rw [List.tail_cons]
      congr 1
      have : x[0] = x.data.toList[0] := by rw [ByteArray.getElem_eq_getElem_data, Array.getElem_toList]
      rw [this]
      simp [hx]
  rw [e]
  simp only [List.isEmpty_cons, Bool.false_or, List.headD_cons]
  by_cases hc : x[0] = 35
  · rw [hc]; rfl
  · rw [beq_eq_false_iff_ne.2 hc]
    symm
    rw [beq_eq_false_iff_ne]
    exact fun q => hc (UInt8.toNat_inj.1 q)
set_option maxRecDepth 100000 in
set_option maxHeartbeats 4000000 in
theorem parse_any (s : ByteArray) (hs : s.size ≤ 65536) (g : Nat → List RU) (hg : ParseS (PV.pieces 10 s) g) (hc : checkC (g (PV.pieces 10 s).length) = 0) (hks : ∀ r ∈ g (PV.pieces 10 s).length, r.key.size ≤ 9223372036854775807) (w : World) (hp : Laid w) :
    Calls Tryz.prog 20 #[.string s] w fun e w' => ∃ A c, e = .returned (.tuple #[.slice A (g (PV.pieces 10 s).length).length c, .int .i64 0, .int .i64 0]) ∧ UO w' w.heap.size (.slice A (g (PV.pieces 10 s).length).length c) (g (PV.pieces 10 s).length) ∧ Gr w w' := by
  have HL := Lib.hid (split1_any 10 s (by omega) w)
  have hpl := PV.pieces_size 10 s
  have hple := PV.pieces_le 10 s
  obtain ⟨ls, hls⟩ : ∃ l, l = PV.pieces 10 s := ⟨_, rfl⟩
  rw [← hls] at HL hg hc hks hpl hple ⊢
  obtain ⟨W1, hW1, hgW, hsb⟩ : ∃ W, W = w.alloc (.cells (ls.map Value.string).toArray 9) ∧ Gr w W ∧ SBox W w.heap.size ls := ⟨_, rfl, (Gr.refl w).alloc _, SBox.made w ls⟩
  rw [← hW1] at HL
  obtain ⟨n, hn⟩ : ∃ n, n = ls.length := ⟨_, rfl⟩
  have HN := Lib.hid hn
  rw [← hn] at HL hc hks hpl ⊢
  have HG1 := Lib.hid hgW
  have HSB := Lib.hid hsb
  have HPS := Lib.hid hg
  have HP := Lib.hid hp
  have HPLE := Lib.hid hple
  have HCK := Lib.hid (fun v w1 (hv : UV w1 v (g n)) hp => rucheck_any v (g n) hks w1 hv hp)
  rw [hc] at HCK
  have HS := Lib.hid hs
  have t0 : ¬ (65536 : Int) < (s.size : Int) := by omega
  clear hgW hsb hn hls hple hg hp hc hks hs
  go_enter Tryz.func20, Tryz.ntmps20
  go_wp2_with fail
  refine HL.out.mono ?_
  rintro e w1 ⟨rfl, rfl⟩
  clear hW1
  go_wp2_with fail
  go_loopw [5, 6, 7, 8, 9, 17] (fun s5 s6 s7 s8 s9 i wr => ∃ (k : Nat) (A : Option Addr) (c : Nat), k ≤ n ∧ i = .int .i64 (k : Int) ∧ s5 = .slice A (g k).length c ∧ UO wr w1.heap.size (.slice A (g k).length c) (g k) ∧ Gr w1 wr) (fun s5 s6 s7 s8 s9 i _ => n - (intOf i).toNat)
  case atStart => exact ⟨0, none, 0, Nat.zero_le _, rfl, by rw [HPS.out.zero]; rfl, by rw [HPS.out.zero]; exact UO.nil _ _, Gr.refl _⟩
  case round =>
    obtain ⟨k, A, c, hk, rfl, rfl, hu, hgr⟩ := hrel
    have HU := Lib.hid hu
    have HGR := Lib.hid hgr
    by_cases hlt : k < n
    · have hkL : k < ls.length := by rw [← HN.out]; exact hlt
      have hst := HPS.out.step k hkL
      have hc1 := hgr.cell (HSB.out.cell hkL)
      have hxs := HPLE.out _ (List.getElem_mem hkL)
      obtain ⟨x, hx⟩ : ∃ x, x = ls[k] := ⟨_, rfl⟩
      rw [← hx] at hst hc1 hxs
      have u1 : (k : Int) < (n : Int) := by omega
      have u0 : (0 : Int) ≤ (k : Int) := by omega
      have u2 : wrap64 ((k : Int) + 1) = ((k + 1 : Nat) : Int) := by unfold wrap64; omega
      have hxz : x.size ≤ 65536 := Nat.le_trans hxs HS.out
      rcases hst with ⟨hsk, hgk⟩ | ⟨hsk, r, hrd, hgk⟩
      · have HGK := Lib.hid hgk
        by_cases hz : x.size = 0
        · have he : x.toList = [] := toList_nil hz
          have he2 : x.toList.isEmpty = true := by rw [he]; rfl
          clear hsk hgk hx hkL hxs hxz hz hu hgr
          go_wp2_with fail
          go_roundw
          case rel => exact ⟨k + 1, A, c, by omega, by go_num, by rw [HGK.out], by rw [HGK.out]; exact HU.out, HGR.out⟩
          case measure => simp [intOf]; omega
        · have he2 : x.toList.isEmpty = false := toList_some hz
          have hzp : 0 < x.size := by omega
          rw [skip_at hzp] at hsk
          obtain ⟨y, hy⟩ : ∃ y, y = (x[0]).toNat := ⟨_, rfl⟩
          rw [← hy] at hsk
          have hyv : y = 35 := by simpa using hsk
          have hxi : ∀ w, (Instr.index 9 (.string x) (.int .i64 0)).run Tryz.prog w = .ok (.int .u8 35) w := by
            intro w
            rw [run_index_string _ _ _ _ _ Tryz.underlying9]
            simp [hzp, ← hy, hyv]
          clear hsk hgk hx hkL hxs hxz hz hu hgr hy
          go_wp2_with fail
          go_roundw
          case rel => exact ⟨k + 1, A, c, by omega, by go_num, by rw [HGK.out], by rw [HGK.out]; exact HU.out, HGR.out⟩
          case measure => simp [intOf]; omega
      · have HGK := Lib.hid hgk
        have hzp : 0 < x.size := by
          by_cases hz : x.size = 0
          · rw [skip_nil hz] at hsk; cases hsk
          · omega
        have he2 : x.toList.isEmpty = false := toList_some (by omega)
        rw [skip_at hzp] at hsk
        obtain ⟨y, hy⟩ : ∃ y, y = (x[0]).toNat := ⟨_, rfl⟩
        rw [← hy] at hsk
        have hyv : ¬ y = 35 := by simpa using hsk
        have hxi : ∀ w, (Instr.index 9 (.string x) (.int .i64 0)).run Tryz.prog w = .ok (.int .u8 (y : Int)) w := by
          intro w
          rw [run_index_string _ _ _ _ _ Tryz.underlying9]
          simp [hzp, ← hy]
        have hyb : ((y : Int) == 35) = false := int_beq_f (by omega)
        have HSP := Lib.hid (fun w => split1_any 32 x (by omega) w)
        have hwl := PV.pieces_size 32 x
        have hwz := PV.pieces_le 32 x
        obtain ⟨ws, hws⟩ : ∃ l, l = PV.pieces 32 x := ⟨_, rfl⟩
        rw [← hws] at HSP hrd hwl hwz
        have HRD := Lib.hid (fun v w1 (hv : SV w1 v ws) hp => readRule_any ws r hrd (fun y hy => by have := hwz y hy; omega) v w1 hv hp)
        obtain ⟨W3, hW3, hg3, hsb3⟩ : ∃ W, W = wr.alloc (.cells (ws.map Value.string).toArray 9) ∧ Gr wr W ∧ SBox W wr.heap.size ws := ⟨_, rfl, (Gr.refl wr).alloc _, SBox.made wr ws⟩
        have HSP : Hid (Calls Tryz.prog 63 #[.string x, .string ⟨#[32]⟩] wr fun e w' => e = .returned (.slice (some ⟨wr.heap.size, 0, none⟩) ws.length ws.length) ∧ w' = W3) := Lib.hid (by rw [hW3]; exact HSP.out wr)
        have HSV := Lib.hid (hsb3.sv (by unfold maxLen; omega))
        have HG3 := Lib.hid (HGR.out.trans hg3)
        have HU3 := Lib.hid (HU.out.gr hg3)
        have HP3 := Lib.hid (HP.out.gr (HG1.out.trans HG3.out))
        obtain ⟨b3, hb3⟩ : ∃ b, b = wr.heap.size := ⟨_, rfl⟩
        rw [← hb3] at HSP HSV
        obtain ⟨m, hm⟩ : ∃ m, m = ws.length := ⟨_, rfl⟩
        rw [← hm] at HSP HSV
        have HLK := Lib.hid (show (g k).length ≤ k from HPS.out.len k (by omega))
        obtain ⟨rs, hrs⟩ : ∃ l, l = g k := ⟨_, rfl⟩
        rw [← hrs] at HU3 HLK HGK hu
        obtain ⟨N, hN⟩ : ∃ N, N = rs.length := ⟨_, rfl⟩
        have HNN := Lib.hid hN
        rw [← hrs, ← hN]
        rw [← hN] at HU3 HLK
        clear hsk hgk hx hkL hxs hxz hu hgr hy hrd hwl hwz hws hW3 hg3 hsb3 hb3 hm hrs hN hzp HU HGR
        go_wp2_with fail
        refine HSP.out.mono ?_
        rintro e w4 ⟨rfl, rfl⟩
        go_wp2_with fail
        refine (HRD.out _ _ HSV.out HP3.out).mono ?_
        rintro e w5 ⟨rfl, g5⟩
        have HU5 := Lib.hid (HU3.out.gr g5)
        have HG5 := Lib.hid (HG3.out.trans g5)
        clear g5
        go_upto_region 9 with (fail)
        obtain ⟨W6, hW6, hg6, hr6⟩ := rubox w5 r
        change Code.wp Tryz.prog _ _ _ (w5.alloc (.cells (ruv r) 49))
        rw [← hW6]
        have HU6 := Lib.hid (HU5.out.gr hg6)
        have HG6 := Lib.hid (HG5.out.trans hg6)
        obtain ⟨c0, c1, c2, c3, c4⟩ := hr6
        simp only [Nat.zero_add] at c0 c1 c2 c3 c4
        clear hW6 hg6
        have hln : (N + 1) * 56 ≤ 140737488355328 := by have := HLK.out; omega
        go_wp2_with (at_builtin; refine wpList_push_u (w0 := w1) rfl (.tmp 39) (.tmp 41) rfl (.slice A N c) (.slice (some ⟨W6.heap.size, 0, none⟩) 1 1) rs [r] N 1 HNN.out rfl rfl (HU6.out.gr (gr_box _ _)) rfl (uv_one W6 r _ rfl) hln (HG6.out.alloc _) ?_)
        intro A9 c9 w9 hown9 hg9 hgrow9
        have HU9 := Lib.hid hown9
        have HG9 := Lib.hid hg9
        clear hown9 hg9 hgrow9
        go_wp2_with fail
        go_roundw
        case rel =>
          have el : (g (k + 1)).length = N + 1 := by rw [HGK.out, List.length_append, ← HNN.out]; rfl
          exact ⟨k + 1, A9, c9, by omega, by go_num, by rw [el], by rw [el, HGK.out]; exact HU9.out, HG9.out⟩
        case measure => simp [intOf]; omega
    · obtain rfl : k = n := by omega
      have HC := Lib.hid (HCK.out _ wr HU.out.uv (HP.out.gr (HG1.out.trans HGR.out)))
      have u1 : ¬ (k : Int) < (k : Int) := by omega
      obtain ⟨N, hN⟩ : ∃ N, N = (g k).length := ⟨_, rfl⟩
      rw [← hN] at HC HU ⊢
      have HNE := Lib.hid hN
      clear hu hgr hN
      go_wp2_with fail
      refine HC.out.mono ?_
      rintro e w5 ⟨rfl, g5⟩
      have HU5 := Lib.hid ((HU.out.gr g5).le HG1.out.size)
      have HG5 := Lib.hid ((HG1.out.trans HGR.out).trans g5)
      clear g5
      go_wp2_with fail
      go_ret3
      exact ⟨A, c, by rw [← HNE.out]; rfl, by rw [← HNE.out]; exact HU5.out, HG5.out⟩
end Go.Proofs.YtnjmgknicffcbaaGreatDoor
namespace Go.Proofs.YtnjmgknicffcbaaGreatDoor
open Go.RowKit Go.Joins
set_option linter.unusedSimpArgs false
set_option linter.unusedVariables false

def tx (n : Int) : ByteArray := ⟨(Lib.itoa n).toArray⟩
def subR (r : RU) (n : ByteArray) : ByteArray := if n = sKEY then r.key else if n = sOTHER then r.other else if n = sMIN then tx r.min else if n = sSTART then tx r.start else n
/-- The words of a rule's line. -/
def wordsR (r : RU) : List ByteArray := (names r.k).map (subR r)
theorem subR_key (r : RU) : subR r sKEY = r.key := by unfold subR; rw [if_pos rfl]
theorem subR_other (r : RU) : subR r sOTHER = r.other := by unfold subR; rw [if_neg (by decide), if_pos rfl]
theorem subR_min (r : RU) : subR r sMIN = tx r.min := by unfold subR; rw [if_neg (by decide), if_neg (by decide), if_pos rfl]
theorem subR_start (r : RU) : subR r sSTART = tx r.start := by unfold subR; rw [if_neg (by decide), if_neg (by decide), if_neg (by decide), if_pos rfl]
theorem subR_word (r : RU) {w : ByteArray} (h : w ≠ sKEY ∧ w ≠ sOTHER ∧ w ≠ sMIN ∧ w ≠ sSTART) : subR r w = w := by unfold subR; rw [if_neg h.1, if_neg h.2.1, if_neg h.2.2.1, if_neg h.2.2.2]
theorem setF_key (r : RU) (x : ByteArray) : setF sKEY r x = some { r with key := x } := by unfold setF; rw [if_pos rfl]
theorem setF_other (r : RU) (x : ByteArray) : setF sOTHER r x = some { r with other := x } := by unfold setF; rw [if_neg (by decide), if_pos rfl]
theorem setF_min (r : RU) {n : Int} (h : PV.inA n) : setF sMIN r (tx n) = some { r with min := n } := by
  unfold setF; rw [if_neg (by decide), if_neg (by decide), if_pos rfl, show (tx n).data.toList = Lib.itoa n from rfl, PV.wholeL_itoa h]; rfl
theorem setF_start (r : RU) {n : Int} (h : PV.inA n) : setF sSTART r (tx n) = some { r with start := n } := by
  unfold setF; rw [if_neg (by decide), if_neg (by decide), if_neg (by decide), if_pos rfl, show (tx n).data.toList = Lib.itoa n from rfl, PV.wholeL_itoa h]; rfl
theorem setF_none (r : RU) {w : ByteArray} (x : ByteArray) (h : w ≠ sKEY ∧ w ≠ sOTHER ∧ w ≠ sMIN ∧ w ≠ sSTART) : setF w r x = some r := by
  unfold setF; rw [if_neg h.1, if_neg h.2.1, if_neg h.2.2.1, if_neg h.2.2.2]
theorem nil_of {s : ByteArray} (h : s.toList.isEmpty = true) : s = ⟨#[]⟩ := by
  rw [ByteArray.toList_eq, List.isEmpty_iff] at h
  cases s with
  | mk d => exact congrArg ByteArray.mk (Array.toList_eq_nil_iff.1 h)
theorem foldR_cons {r r' : RU} {n x : ByteArray} {t : List (ByteArray × ByteArray)} (h : setF n r x = some r') : foldR r ((n, x) :: t) = foldR r' t := by
  show (setF n r x).bind _ = _
  rw [h]; rfl
/-- A rule's words, read again, are the rule. -/
theorem readR_words {r : RU} (h : namedB r = true) (h1 : PV.inA r.min) (h2 : PV.inA r.start) : ReadR (wordsR r) r := by
  obtain ⟨hk, ho, hm, hs⟩ := named_iff.1 h
  obtain ⟨k, key, other, mn, st⟩ := r
  simp only [] at hk ho hm hs h1 h2
  rcases k_cases hk with rfl | rfl | rfl | rfl | rfl | rfl | rfl | rfl | rfl | rfl
  · obtain rfl := nil_of (by simpa using ho : other.toList.isEmpty = true)
    obtain rfl : mn = 0 := by omega
    refine ⟨0, by decide, ?_, ?_, ?_⟩
    · show (List.map (subR _) [wCounter, sKEY, sSTART]).headD _ = wCounter
      rw [List.map_cons, subR_word _ (by decide)]; rfl
    · rfl
    · show foldR (kR 0) (List.zip [wCounter, sKEY, sSTART] (List.map (subR _) [wCounter, sKEY, sSTART])) = _
      simp only [List.map_cons, List.map_nil, subR_key, subR_start, List.zip_cons_cons, List.zip_nil_right]
      rw [subR_word _ (by decide), foldR_cons (setF_none _ _ (by decide)), foldR_cons (setF_key _ _), foldR_cons (setF_start _ h2)]
      rfl
  · obtain rfl := nil_of (by simpa using ho : other.toList.isEmpty = true)
    refine ⟨1, by decide, ?_, ?_, ?_⟩
    · show (List.map (subR _) [wBound, sKEY, sMIN, sSTART]).headD _ = wBound
      rw [List.map_cons, subR_word _ (by decide)]; rfl
    · rfl
    · show foldR (kR 1) (List.zip [wBound, sKEY, sMIN, sSTART] (List.map (subR _) [wBound, sKEY, sMIN, sSTART])) = _
      simp only [List.map_cons, List.map_nil, subR_key, subR_min, subR_start, List.zip_cons_cons, List.zip_nil_right]
      rw [subR_word _ (by decide), foldR_cons (setF_none _ _ (by decide)), foldR_cons (setF_key _ _), foldR_cons (setF_min _ h1), foldR_cons (setF_start _ h2)]
      rfl
  · obtain rfl := nil_of (by simpa using ho : other.toList.isEmpty = true)
    obtain rfl : mn = 0 := by omega
    obtain rfl : st = 0 := by omega
    refine ⟨2, by decide, ?_, ?_, ?_⟩
    · show (List.map (subR _) [wSet, sKEY]).headD _ = wSet
      rw [List.map_cons, subR_word _ (by decide)]; rfl
    · rfl
    · show foldR (kR 2) (List.zip [wSet, sKEY] (List.map (subR _) [wSet, sKEY])) = _
      simp only [List.map_cons, List.map_nil, subR_key, List.zip_cons_cons, List.zip_nil_right]
      rw [subR_word _ (by decide), foldR_cons (setF_none _ _ (by decide)), foldR_cons (setF_key _ _)]
      rfl
  · obtain rfl := nil_of (by simpa using ho : other.toList.isEmpty = true)
    obtain rfl : mn = 0 := by omega
    obtain rfl : st = 0 := by omega
    refine ⟨3, by decide, ?_, ?_, ?_⟩
    · show (List.map (subR _) [wFirm, sKEY]).headD _ = wFirm
      rw [List.map_cons, subR_word _ (by decide)]; rfl
    · rfl
    · show foldR (kR 3) (List.zip [wFirm, sKEY] (List.map (subR _) [wFirm, sKEY])) = _
      simp only [List.map_cons, List.map_nil, subR_key, List.zip_cons_cons, List.zip_nil_right]
      rw [subR_word _ (by decide), foldR_cons (setF_none _ _ (by decide)), foldR_cons (setF_key _ _)]
      rfl
  · obtain rfl := nil_of (by simpa using ho : other.toList.isEmpty = true)
    obtain rfl : mn = 0 := by omega
    obtain rfl : st = 0 := by omega
    refine ⟨4, by decide, ?_, ?_, ?_⟩
    · show (List.map (subR _) [wLast, sKEY]).headD _ = wLast
      rw [List.map_cons, subR_word _ (by decide)]; rfl
    · rfl
    · show foldR (kR 4) (List.zip [wLast, sKEY] (List.map (subR _) [wLast, sKEY])) = _
      simp only [List.map_cons, List.map_nil, subR_key, List.zip_cons_cons, List.zip_nil_right]
      rw [subR_word _ (by decide), foldR_cons (setF_none _ _ (by decide)), foldR_cons (setF_key _ _)]
      rfl
  · obtain rfl := nil_of (by simpa using ho : other.toList.isEmpty = true)
    obtain rfl : mn = 0 := by omega
    obtain rfl : st = 0 := by omega
    refine ⟨5, by decide, ?_, ?_, ?_⟩
    · show (List.map (subR _) [wMulti, sKEY]).headD _ = wMulti
      rw [List.map_cons, subR_word _ (by decide)]; rfl
    · rfl
    · show foldR (kR 5) (List.zip [wMulti, sKEY] (List.map (subR _) [wMulti, sKEY])) = _
      simp only [List.map_cons, List.map_nil, subR_key, List.zip_cons_cons, List.zip_nil_right]
      rw [subR_word _ (by decide), foldR_cons (setF_none _ _ (by decide)), foldR_cons (setF_key _ _)]
      rfl
  · obtain rfl := nil_of (by simpa using ho : other.toList.isEmpty = true)
    obtain rfl : mn = 0 := by omega
    refine ⟨6, by decide, ?_, ?_, ?_⟩
    · show (List.map (subR _) [wFlag, sKEY, sSTART]).headD _ = wFlag
      rw [List.map_cons, subR_word _ (by decide)]; rfl
    · rfl
    · show foldR (kR 6) (List.zip [wFlag, sKEY, sSTART] (List.map (subR _) [wFlag, sKEY, sSTART])) = _
      simp only [List.map_cons, List.map_nil, subR_key, subR_start, List.zip_cons_cons, List.zip_nil_right]
      rw [subR_word _ (by decide), foldR_cons (setF_none _ _ (by decide)), foldR_cons (setF_key _ _), foldR_cons (setF_start _ h2)]
      rfl
  · obtain rfl := nil_of (by simpa using ho : other.toList.isEmpty = true)
    obtain rfl : mn = 0 := by omega
    obtain rfl : st = 0 := by omega
    refine ⟨7, by decide, ?_, ?_, ?_⟩
    · show (List.map (subR _) [wIds, sKEY]).headD _ = wIds
      rw [List.map_cons, subR_word _ (by decide)]; rfl
    · rfl
    · show foldR (kR 7) (List.zip [wIds, sKEY] (List.map (subR _) [wIds, sKEY])) = _
      simp only [List.map_cons, List.map_nil, subR_key, List.zip_cons_cons, List.zip_nil_right]
      rw [subR_word _ (by decide), foldR_cons (setF_none _ _ (by decide)), foldR_cons (setF_key _ _)]
      rfl
  · obtain rfl : mn = 0 := by omega
    obtain rfl : st = 0 := by omega
    refine ⟨8, by decide, ?_, ?_, ?_⟩
    · show (List.map (subR _) [wRef, sKEY, sOTHER]).headD _ = wRef
      rw [List.map_cons, subR_word _ (by decide)]; rfl
    · rfl
    · show foldR (kR 8) (List.zip [wRef, sKEY, sOTHER] (List.map (subR _) [wRef, sKEY, sOTHER])) = _
      simp only [List.map_cons, List.map_nil, subR_key, subR_other, List.zip_cons_cons, List.zip_nil_right]
      rw [subR_word _ (by decide), foldR_cons (setF_none _ _ (by decide)), foldR_cons (setF_key _ _), foldR_cons (setF_other _ _)]
      rfl
  · obtain rfl : mn = 0 := by omega
    obtain rfl : st = 0 := by omega
    refine ⟨9, by decide, ?_, ?_, ?_⟩
    · show (List.map (subR _) [wEither, sKEY, sOTHER]).headD _ = wEither
      rw [List.map_cons, subR_word _ (by decide)]; rfl
    · rfl
    · show foldR (kR 9) (List.zip [wEither, sKEY, sOTHER] (List.map (subR _) [wEither, sKEY, sOTHER])) = _
      simp only [List.map_cons, List.map_nil, subR_key, subR_other, List.zip_cons_cons, List.zip_nil_right]
      rw [subR_word _ (by decide), foldR_cons (setF_none _ _ (by decide)), foldR_cons (setF_key _ _), foldR_cons (setF_other _ _)]
      rfl
end Go.Proofs.YtnjmgknicffcbaaGreatDoor
namespace Go.Proofs.YtnjmgknicffcbaaGreatDoor
open Go.RowKit Go.Joins
set_option linter.unusedSimpArgs false
set_option linter.unusedVariables false

/-- A word of a line: short, without a blank and without a byte 10. -/
def GoodW (x : ByteArray) : Prop := x.data.toList.length ≤ 32 ∧ (10 : UInt8) ∉ x.data.toList ∧ (32 : UInt8) ∉ x.data.toList
theorem good_key {s : ByteArray} (h : keyS s = true) : GoodW s := by
  have hz := keyS_size h
  unfold keyS at h
  rw [Bool.and_eq_true, List.all_eq_true] at h
  refine ⟨by rw [Array.length_toList]; exact hz.2, fun hm => ?_, fun hm => ?_⟩
  · exact absurd (h.2 _ hm) (by decide)
  · exact absurd (h.2 _ hm) (by decide)
/-- What a rule that may be is, as far as its line goes. -/
structure LineOk (r : RU) : Prop where
  named : namedB r = true
  min : PV.inA r.min
  start : PV.inA r.start
  key : GoodW r.key
  other : GoodW r.other
theorem good_nil {s : ByteArray} (h : s.toList.isEmpty = true) : GoodW s := by
  rw [nil_of h]
  exact ⟨by decide, by decide, by decide⟩
theorem line_ok {L : List RU} (h : checkC L = 0) : ∀ r ∈ L, LineOk r := by
  unfold checkC at h
  split at h
  · cases h
  · split at h
    · rename_i ha
      rw [allAt_iff] at ha
      have hm : ∀ j (hj : j < L.length), mayB L j L[j] = true := fun j hj => by have := ha j hj; rwa [Nat.zero_add] at this
      intro r hr
      obtain ⟨i, hi, rfl⟩ := List.mem_iff_getElem.1 hr
      have hb := hm i hi
      unfold mayB at hb
      simp only [Bool.and_eq_true] at hb
      obtain ⟨⟨⟨hn, hk⟩, h1, h2⟩, h3⟩ := hb
      refine ⟨hn, inAB_iff.1 h1, inAB_iff.1 h2, good_key hk, ?_⟩
      obtain ⟨-, ho, -, -⟩ := named_iff.1 hn
      have hrul : ∀ kind : Int, kind ≠ 0 → (ruleR L L[i].other).k = kind → GoodW L[i].other := fun kind h0 e => by
        obtain ⟨j, hj, -, -, hf⟩ := ruleR_kind (L := L) (key := L[i].other) (Or.inr (by rw [e]; exact h0))
        have hb := hm j hj
        unfold mayB at hb
        simp only [Bool.and_eq_true] at hb
        rw [← (isF_key hf).1]
        exact good_key hb.1.1.2
      rcases ho with ho | ho | ho
      · exact good_nil ho
      · rw [if_pos ho] at h3
        unfold joinsB at h3
        simp only [Bool.and_eq_true, decide_eq_true_eq] at h3
        exact hrul 3 (by decide) h3.2.2
      · rw [if_neg (by omega), if_pos ho] at h3
        unfold joinsB at h3
        simp only [Bool.and_eq_true, decide_eq_true_eq] at h3
        exact hrul 7 (by decide) h3.1.2.2
    · cases h
instance (x : ByteArray) : Decidable (GoodW x) := by unfold GoodW; infer_instance
end Go.Proofs.YtnjmgknicffcbaaGreatDoor
