/- Walks: records of the manifest, batches, changes of a table, the program's. Walks: batches, changes of a table, the program's. -/
import Derived.Test.YtlnhbndghnkfmaaGreatDoorZm16
import Derived.Test.YtlnhbndghnkfmaaGreatDoorZm09
import Derived.Test.YtlnhbndghnkfmaaGreatDoorZm01
import Derived.Test.YtlnhbndghnkfmaaGreatDoorZm10
namespace Go.Proofs.YtlnhbndghnkfmaaGreatDoor
open Go.RowKit

def cB : ByteArray := ⟨#[99]⟩
/-- The letter and the name of a manifest's record. -/
def markR (s : ByteArray) : Option (ByteArray × ByteArray) := match unpackL s.data.toList with
  | some [a, b] => if (eqS (bs a) tabP || eqS (bs a) cB) && namedB (bs b) then some (bs a, bs b) else none
  | _ => none
theorem tabP_list : tabP.toList = [116] := by rw [ByteArray.toList_eq]; rfl
theorem cB_list : cB.toList = [99] := by rw [ByteArray.toList_eq]; rfl
def markV : Option (ByteArray × ByteArray) → Value
  | some (a, b) => .tuple #[.string a, .string b, .bool true]
  | none => .tuple #[.string ⟨#[]⟩, .string ⟨#[]⟩, .bool false]
theorem cut_t {s : ByteArray} (h : s.size = 8) : cutP s tabP = decide (s.data.toList.head? = some 116) := by
  have hl : s.data.toList.length = 8 := by rw [← h]; exact (Lib.size_eq s).symm
  unfold cutP
  rw [decide_eq_true (show tabP.size ≤ s.size by rw [h]; decide), Bool.true_and]
  unfold eqS
  rw [ByteArray.toList_eq, ByteArray.toList_eq, ext_list]
  rcases hd : s.data.toList with _ | ⟨x, r⟩
  · rw [hd] at hl; cases hl
  · show ([x] == [116]) = decide ((some x : Option UInt8) = some 116)
    by_cases hx : x = 116
    · subst hx
      rfl
    · rw [decide_eq_false (fun h => hx (Option.some.inj h)), beq_eq_false_iff_ne]
      intro h
      injection h with h
      exact hx h
theorem markR_ok {s : ByteArray} {a b : List UInt8} (h : unpackL s.data.toList = some [a, b]) : markR s = if (eqS (bs a) tabP || eqS (bs a) cB) && namedB (bs b) then some (bs a, bs b) else none := by unfold markR; rw [h]
set_option maxRecDepth 100000 in
set_option maxHeartbeats 1000000 in
theorem markOf_any (s : ByteArray) (hs : s.size ≤ maxLen) (w : World) :
    Calls Tryz.prog 114 #[.string s] w fun e w' => e = .returned (markV (markR s)) ∧ Gr w w' := by
  have h1 := unpack_any s hs w
  rcases hu : unpackL s.data.toList with _ | fs
  · rw [hu] at h1
    have H1 := Lib.hid h1
    have HM : Hid (markR s = none) := Lib.hid (by unfold markR; rw [hu])
    clear h1 hu hs
    go_enter Tryz.func114, Tryz.ntmps114
    go_wp2_with fail
    refine H1.out.mono ?_
    rintro e w1 ⟨rfl, g1⟩
    have HG := Lib.hid g1
    clear g1
    go_wp2_with fail
    go_ret3
    exact ⟨by rw [HM.out]; rfl, HG.out⟩
  · rw [hu] at h1
    by_cases hl : fs.length = 2
    · obtain ⟨a, b, rfl⟩ : ∃ a b, fs = [a, b] := by
        match fs, hl with
        | [a, b], _ => exact ⟨a, b, rfl⟩
      have hmr := markR_ok hu
      obtain ⟨x, hx⟩ : ∃ x, x = bs a := ⟨_, rfl⟩
      obtain ⟨y, hy⟩ : ∃ y, y = bs b := ⟨_, rfl⟩
      rw [← hx, ← hy] at hmr
      have H1 : Hid (Calls Tryz.prog 118 #[.string s] w fun e w' => ∃ v, e = .returned (.tuple #[v, .int .i64 0]) ∧ SO w' w.heap.size v [x, y] ∧ Gr w w') := Lib.hid (by rw [hx, hy]; exact h1)
      have hys : y.size ≤ 9223372036854775807 := by
        rw [hy]
        have := (fields_small hu).2 (bs b) (by simp)
        omega
      clear h1 hu hs hx hy hl
      obtain ⟨e1, he1⟩ : ∃ q, q = eqS x tabP := ⟨_, rfl⟩
      obtain ⟨e2, he2⟩ : ∃ q, q = eqS x cB := ⟨_, rfl⟩
      rw [← he1, ← he2] at hmr
      have t1 : (x.toList == [116]) = e1 := by rw [he1]; unfold eqS; rw [tabP_list]
      have t2 : (x.toList == [99]) = e2 := by rw [he2]; unfold eqS; rw [cB_list]
      clear he1 he2
      have hnm := fun w => name_any y hys w
      have h2 := fun w => hasPre_any y tabP hys w
      rcases e1 with _ | _
      · rcases e2 with _ | _
        · have HM : Hid (markR s = none) := Lib.hid (by rw [hmr]; rfl)
          clear hmr hnm h2
          go_enter Tryz.func114, Tryz.ntmps114
          go_wp2_with fail
          refine H1.out.mono ?_
          rintro e w1 ⟨v, rfl, so1, g1⟩
          obtain ⟨A, c, rfl, hc1, hc2, hcc⟩ := so1.sv
          obtain ⟨b0, off0, rfl, c0⟩ := hcc 0 (by simp)
          obtain ⟨b1, off1, ha, c1⟩ := hcc 1 (by simp)
          injection ha with ha
          injection ha with ha1 ha2
          subst ha1 ha2
          have HG := Lib.hid g1
          have c0' : w1.cell? ⟨b0, off0, none⟩ = some (.string x) := c0
          have c1' : w1.cell? ⟨b0, off0 + 1, none⟩ = some (.string y) := c1
          clear g1 so1 hcc c0 c1 hc1 hc2
          go_wp2_with fail
          go_quiet (fail)
          go_wp2_with fail
          go_ret3
          exact ⟨by rw [HM.out]; rfl, HG.out.drewN _⟩
        · by_cases h8 : y.size = 8
          · have t4 : (y.size : Int) = 8 := by omega
            rcases hno : nameOk y with _ | _
            · have HM : Hid (markR s = none) := Lib.hid (by rw [hmr]; unfold namedB; rw [hno, Bool.and_false, Bool.and_false]; rfl)
              rw [hno] at hnm
              have H3 := Lib.hid hnm
              clear hmr hnm h2 h8 hno
              go_enter Tryz.func114, Tryz.ntmps114
              go_wp2_with fail
              refine H1.out.mono ?_
              rintro e w1 ⟨v, rfl, so1, g1⟩
              obtain ⟨A, c, rfl, hc1, hc2, hcc⟩ := so1.sv
              obtain ⟨b0, off0, rfl, c0⟩ := hcc 0 (by simp)
              obtain ⟨b1, off1, ha, c1⟩ := hcc 1 (by simp)
              injection ha with ha
              injection ha with ha1 ha2
              subst ha1 ha2
              have HG := Lib.hid g1
              have c0' : w1.cell? ⟨b0, off0, none⟩ = some (.string x) := c0
              have c1' : w1.cell? ⟨b0, off0 + 1, none⟩ = some (.string y) := c1
              clear g1 so1 hcc c0 c1 hc1 hc2
              go_wp2_with fail
              go_quiet (fail)
              go_wp2_with fail
              refine (H3.out _).mono ?_
              rintro e w2 ⟨rfl, rfl⟩
              go_wp2_with fail
              go_ret3
              exact ⟨by rw [HM.out]; rfl, HG.out.drewN _⟩
            · rw [hno] at hnm
              have H3 := Lib.hid hnm
              rw [cut_t h8] at h2
              obtain ⟨q, hq⟩ : ∃ q, q = decide (y.data.toList.head? = some 116) := ⟨_, rfl⟩
              rw [← hq] at h2
              unfold tabP at h2
              have H2 := Lib.hid h2
              rcases q with _ | _
              · have HM : Hid (markR s = none) := Lib.hid (by rw [hmr]; unfold namedB; rw [← hq, Bool.false_and, Bool.and_false]; rfl)
                clear hmr hnm h8 hno hq h2
                go_enter Tryz.func114, Tryz.ntmps114
                go_wp2_with fail
                refine H1.out.mono ?_
                rintro e w1 ⟨v, rfl, so1, g1⟩
                obtain ⟨A, c, rfl, hc1, hc2, hcc⟩ := so1.sv
                obtain ⟨b0, off0, rfl, c0⟩ := hcc 0 (by simp)
                obtain ⟨b1, off1, ha, c1⟩ := hcc 1 (by simp)
                injection ha with ha
                injection ha with ha1 ha2
                subst ha1 ha2
                have HG := Lib.hid g1
                have c0' : w1.cell? ⟨b0, off0, none⟩ = some (.string x) := c0
                have c1' : w1.cell? ⟨b0, off0 + 1, none⟩ = some (.string y) := c1
                clear g1 so1 hcc c0 c1 hc1 hc2
                go_wp2_with fail
                go_quiet (fail)
                go_wp2_with fail
                refine (H3.out _).mono ?_
                rintro e w2 ⟨rfl, rfl⟩
                go_wp2_with fail
                refine (H2.out _).mono ?_
                rintro e w3 ⟨rfl, rfl⟩
                go_wp2_with fail
                go_ret3
                exact ⟨by rw [HM.out]; rfl, HG.out.drewN _⟩
              · have HM : Hid (markR s = some (x, y)) := Lib.hid (by rw [hmr]; unfold namedB; rw [← hq, hno, decide_eq_true h8]; rfl)
                clear hmr hnm h8 hno hq h2
                go_enter Tryz.func114, Tryz.ntmps114
                go_wp2_with fail
                refine H1.out.mono ?_
                rintro e w1 ⟨v, rfl, so1, g1⟩
                obtain ⟨A, c, rfl, hc1, hc2, hcc⟩ := so1.sv
                obtain ⟨b0, off0, rfl, c0⟩ := hcc 0 (by simp)
                obtain ⟨b1, off1, ha, c1⟩ := hcc 1 (by simp)
                injection ha with ha
                injection ha with ha1 ha2
                subst ha1 ha2
                have HG := Lib.hid g1
                have c0' : w1.cell? ⟨b0, off0, none⟩ = some (.string x) := c0
                have c1' : w1.cell? ⟨b0, off0 + 1, none⟩ = some (.string y) := c1
                clear g1 so1 hcc c0 c1 hc1 hc2
                go_wp2_with fail
                go_quiet (fail)
                go_wp2_with fail
                refine (H3.out _).mono ?_
                rintro e w2 ⟨rfl, rfl⟩
                go_wp2_with fail
                refine (H2.out _).mono ?_
                rintro e w3 ⟨rfl, rfl⟩
                go_wp2_with fail
                go_ret3
                exact ⟨by rw [HM.out]; rfl, HG.out.drewN _⟩
          · have t4 : ¬ (y.size : Int) = 8 := by omega
            have HM : Hid (markR s = none) := Lib.hid (by rw [hmr]; unfold namedB; rw [decide_eq_false h8, Bool.false_and, Bool.and_false]; rfl)
            clear hmr hnm h2 h8
            go_enter Tryz.func114, Tryz.ntmps114
            go_wp2_with fail
            refine H1.out.mono ?_
            rintro e w1 ⟨v, rfl, so1, g1⟩
            obtain ⟨A, c, rfl, hc1, hc2, hcc⟩ := so1.sv
            obtain ⟨b0, off0, rfl, c0⟩ := hcc 0 (by simp)
            obtain ⟨b1, off1, ha, c1⟩ := hcc 1 (by simp)
            injection ha with ha
            injection ha with ha1 ha2
            subst ha1 ha2
            have HG := Lib.hid g1
            have c0' : w1.cell? ⟨b0, off0, none⟩ = some (.string x) := c0
            have c1' : w1.cell? ⟨b0, off0 + 1, none⟩ = some (.string y) := c1
            clear g1 so1 hcc c0 c1 hc1 hc2
            go_wp2_with fail
            go_quiet (fail)
            go_wp2_with fail
            go_ret3
            exact ⟨by rw [HM.out]; rfl, HG.out.drewN _⟩
      · by_cases h8 : y.size = 8
        · have t4 : (y.size : Int) = 8 := by omega
          rcases hno : nameOk y with _ | _
          · have HM : Hid (markR s = none) := Lib.hid (by rw [hmr]; unfold namedB; rw [hno, Bool.and_false, Bool.and_false]; rfl)
            rw [hno] at hnm
            have H3 := Lib.hid hnm
            clear hmr hnm h2 h8 hno
            go_enter Tryz.func114, Tryz.ntmps114
            go_wp2_with fail
            refine H1.out.mono ?_
            rintro e w1 ⟨v, rfl, so1, g1⟩
            obtain ⟨A, c, rfl, hc1, hc2, hcc⟩ := so1.sv
            obtain ⟨b0, off0, rfl, c0⟩ := hcc 0 (by simp)
            obtain ⟨b1, off1, ha, c1⟩ := hcc 1 (by simp)
            injection ha with ha
            injection ha with ha1 ha2
            subst ha1 ha2
            have HG := Lib.hid g1
            have c0' : w1.cell? ⟨b0, off0, none⟩ = some (.string x) := c0
            have c1' : w1.cell? ⟨b0, off0 + 1, none⟩ = some (.string y) := c1
            clear g1 so1 hcc c0 c1 hc1 hc2
            go_wp2_with fail
            go_quiet (fail)
            go_wp2_with fail
            refine (H3.out _).mono ?_
            rintro e w2 ⟨rfl, rfl⟩
            go_wp2_with fail
            go_ret3
            exact ⟨by rw [HM.out]; rfl, HG.out.drewN _⟩
          · rw [hno] at hnm
            have H3 := Lib.hid hnm
            rw [cut_t h8] at h2
            obtain ⟨q, hq⟩ : ∃ q, q = decide (y.data.toList.head? = some 116) := ⟨_, rfl⟩
            rw [← hq] at h2
            unfold tabP at h2
            have H2 := Lib.hid h2
            rcases q with _ | _
            · have HM : Hid (markR s = none) := Lib.hid (by rw [hmr]; unfold namedB; rw [← hq, Bool.false_and, Bool.and_false]; rfl)
              clear hmr hnm h8 hno hq h2
              go_enter Tryz.func114, Tryz.ntmps114
              go_wp2_with fail
              refine H1.out.mono ?_
              rintro e w1 ⟨v, rfl, so1, g1⟩
              obtain ⟨A, c, rfl, hc1, hc2, hcc⟩ := so1.sv
              obtain ⟨b0, off0, rfl, c0⟩ := hcc 0 (by simp)
              obtain ⟨b1, off1, ha, c1⟩ := hcc 1 (by simp)
              injection ha with ha
              injection ha with ha1 ha2
              subst ha1 ha2
              have HG := Lib.hid g1
              have c0' : w1.cell? ⟨b0, off0, none⟩ = some (.string x) := c0
              have c1' : w1.cell? ⟨b0, off0 + 1, none⟩ = some (.string y) := c1
              clear g1 so1 hcc c0 c1 hc1 hc2
              go_wp2_with fail
              go_quiet (fail)
              go_wp2_with fail
              refine (H3.out _).mono ?_
              rintro e w2 ⟨rfl, rfl⟩
              go_wp2_with fail
              refine (H2.out _).mono ?_
              rintro e w3 ⟨rfl, rfl⟩
              go_wp2_with fail
              go_ret3
              exact ⟨by rw [HM.out]; rfl, HG.out.drewN _⟩
            · have HM : Hid (markR s = some (x, y)) := Lib.hid (by rw [hmr]; unfold namedB; rw [← hq, hno, decide_eq_true h8]; rfl)
              clear hmr hnm h8 hno hq h2
              go_enter Tryz.func114, Tryz.ntmps114
              go_wp2_with fail
              refine H1.out.mono ?_
              rintro e w1 ⟨v, rfl, so1, g1⟩
              obtain ⟨A, c, rfl, hc1, hc2, hcc⟩ := so1.sv
              obtain ⟨b0, off0, rfl, c0⟩ := hcc 0 (by simp)
              obtain ⟨b1, off1, ha, c1⟩ := hcc 1 (by simp)
              injection ha with ha
              injection ha with ha1 ha2
              subst ha1 ha2
              have HG := Lib.hid g1
              have c0' : w1.cell? ⟨b0, off0, none⟩ = some (.string x) := c0
              have c1' : w1.cell? ⟨b0, off0 + 1, none⟩ = some (.string y) := c1
              clear g1 so1 hcc c0 c1 hc1 hc2
              go_wp2_with fail
              go_quiet (fail)
              go_wp2_with fail
              refine (H3.out _).mono ?_
              rintro e w2 ⟨rfl, rfl⟩
              go_wp2_with fail
              refine (H2.out _).mono ?_
              rintro e w3 ⟨rfl, rfl⟩
              go_wp2_with fail
              go_ret3
              exact ⟨by rw [HM.out]; rfl, HG.out.drewN _⟩
        · have t4 : ¬ (y.size : Int) = 8 := by omega
          have HM : Hid (markR s = none) := Lib.hid (by rw [hmr]; unfold namedB; rw [decide_eq_false h8, Bool.false_and, Bool.and_false]; rfl)
          clear hmr hnm h2 h8
          go_enter Tryz.func114, Tryz.ntmps114
          go_wp2_with fail
          refine H1.out.mono ?_
          rintro e w1 ⟨v, rfl, so1, g1⟩
          obtain ⟨A, c, rfl, hc1, hc2, hcc⟩ := so1.sv
          obtain ⟨b0, off0, rfl, c0⟩ := hcc 0 (by simp)
          obtain ⟨b1, off1, ha, c1⟩ := hcc 1 (by simp)
          injection ha with ha
          injection ha with ha1 ha2
          subst ha1 ha2
          have HG := Lib.hid g1
          have c0' : w1.cell? ⟨b0, off0, none⟩ = some (.string x) := c0
          have c1' : w1.cell? ⟨b0, off0 + 1, none⟩ = some (.string y) := c1
          clear g1 so1 hcc c0 c1 hc1 hc2
          go_wp2_with fail
          go_quiet (fail)
          go_wp2_with fail
          go_ret3
          exact ⟨by rw [HM.out]; rfl, HG.out.drewN _⟩
    · have HM : Hid (markR s = none) := Lib.hid (by
        unfold markR
        rw [hu]
        match fs, hl with
        | [], _ => rfl
        | [_], _ => rfl
        | [_, _], h => exact absurd rfl h
        | _ :: _ :: _ :: _, _ => rfl)
      have H1 : Hid (Calls Tryz.prog 118 #[.string s] w fun e w' => ∃ v, e = .returned (.tuple #[v, .int .i64 0]) ∧ SO w' w.heap.size v (fs.map bs) ∧ Gr w w') := Lib.hid h1
      have t0 : ((fs.length : Int) == 2) = false := by rw [beq_eq_false_iff_ne]; omega
      have hfl : (fs.map bs).length = fs.length := by simp
      have HFL := Lib.hid hfl
      clear h1 hu hs hl hfl
      go_enter Tryz.func114, Tryz.ntmps114
      go_wp2_with fail
      refine H1.out.mono ?_
      rintro e w1 ⟨v, rfl, so1, g1⟩
      obtain ⟨A, c, rfl, -, -⟩ := own_form so1
      rw [HFL.out]
      have HG := Lib.hid g1
      clear g1 so1
      go_wp2_with fail
      go_ret3
      exact ⟨by rw [HM.out]; rfl, HG.out⟩
end Go.Proofs.YtlnhbndghnkfmaaGreatDoor
namespace Go.Proofs.YtlnhbndghnkfmaaGreatDoor
open Go.RowKit

/-- What is wrong with a change. -/
def chE (c : CR) : Nat := if c.key.size = 0 ∨ (c.gone = true ∧ c.val.size ≠ 0) then 1 else if 64 < c.key.size ∨ 4096 < c.val.size then 2 else 0
def batchL : List CR → Nat
  | [] => 0
  | c :: r => if chE c = 0 then batchL r else chE c
/-- May the changes be a batch? The number of what is wrong. -/
def batchE (L : List CR) : Nat := if 64 < L.length then 2 else if L.length = 0 then 1 else batchL L
theorem batchL_at : ∀ {L : List CR} {j : Nat} (hj : j < L.length), (∀ i (h : i < L.length), i < j → chE L[i] = 0) → chE L[j] ≠ 0 → batchL L = chE L[j]
  | c :: r, 0, _, _, h => by
    show (if chE c = 0 then batchL r else chE c) = chE c
    exact if_neg h
  | c :: r, j + 1, hj, h0, h => by
    show (if chE c = 0 then batchL r else chE c) = chE (r[j]'(by simpa using hj))
    have e : chE c = 0 := h0 0 (by simp) (by omega)
    rw [if_pos e]
    exact batchL_at (by simpa using hj) (fun i hi hij => h0 (i + 1) (by simpa using hi) (by omega)) h
theorem batchL_all : ∀ {L : List CR}, (∀ i (h : i < L.length), chE L[i] = 0) → batchL L = 0
  | [], _ => rfl
  | c :: r, h => by
    show (if chE c = 0 then batchL r else chE c) = 0
    have e : chE c = 0 := h 0 (by simp)
    rw [if_pos e]
    exact batchL_all fun i hi => h (i + 1) (by simpa using hi)
theorem size_pos_list {s : ByteArray} (h : s.size ≠ 0) : s.toList.isEmpty = false := by
  cases e : s.toList with
  | nil => exact absurd (size_empty.1 e) h
  | cons a l => rfl
theorem size_zero_list {s : ByteArray} (h : s.size = 0) : s.toList = [] := size_empty.2 h
set_option maxRecDepth 100000 in
set_option maxHeartbeats 2000000 in
theorem batch_any (v : Value) (L : List CR) (w : World) (hv : CV w v L) (hmax : ∀ c ∈ L, c.key.size ≤ 281474976710656 ∧ c.val.size ≤ 281474976710656) :
    Calls Tryz.prog 109 #[v] w fun e w' => e = .returned (.int .i64 (batchE L : Int)) ∧ Gr w w' := by
  obtain ⟨A, c, rfl, l1, ⟨l2, _⟩, l3⟩ := hv
  have hc63 : c ≤ 9223372036854775807 := l2
  have HP := Lib.hid l3
  have HM := Lib.hid hmax
  obtain ⟨n, hn⟩ : ∃ n, n = L.length := ⟨_, rfl⟩
  have HN := Lib.hid hn
  rw [← hn] at l1 ⊢
  clear l2 l3 hn hmax
  by_cases h64 : 64 < n
  · have HB : Hid (batchE L = 2) := Lib.hid (by unfold batchE; rw [← HN.out, if_pos h64])
    have t0 : (64 : Int) < (n : Int) := by omega
    clear h64
    go_enter Tryz.func109, Tryz.ntmps109
    go_wp2_with fail
    go_ret
    exact ⟨by rw [HB.out]; rfl, Gr.refl _⟩
  have t0 : ¬ (64 : Int) < (n : Int) := by omega
  by_cases h0 : n = 0
  · have HB : Hid (batchE L = 1) := Lib.hid (by unfold batchE; rw [← HN.out, if_neg h64, if_pos h0])
    have t1 : (n : Int) = 0 := by omega
    clear h64 h0
    go_enter Tryz.func109, Tryz.ntmps109
    go_wp2_with fail
    go_ret
    exact ⟨by rw [HB.out]; rfl, Gr.refl _⟩
  have t1 : ¬ (n : Int) = 0 := by omega
  have HBL : Hid (batchE L = batchL L) := Lib.hid (by unfold batchE; rw [← HN.out, if_neg h64, if_neg h0])
  clear h64 h0
  go_enter Tryz.func109, Tryz.ntmps109
  go_wp2_with fail
  go_loopg [13] (n + 1) (fun kx s13 wr => ∃ j : Nat, s13 = .int .i64 (j : Int) ∧ j ≤ n ∧ n - j ≤ kx ∧ Hid (∀ i (h : i < L.length), i < j → chE L[i] = 0) ∧ Hid (Gr w wr))
  case atStart => exact ⟨0, rfl, Nat.zero_le _, by omega, Lib.hid (fun i _ h => absurd h (Nat.not_lt_zero _)), Lib.hid (Gr.refl _)⟩
  case round =>
    obtain ⟨j, rfl, hj, hkx, HB, HG⟩ := hrel
    by_cases hlt : j < n
    · have hjL : j < L.length := by rw [← HN.out]; exact hlt
      obtain ⟨b, off, rfl, q0, q1, q2⟩ := HP.out j hjL
      have hms := HM.out _ (List.getElem_mem hjL)
      obtain ⟨x, hx⟩ : ∃ x, x = L[j].key := ⟨_, rfl⟩
      obtain ⟨y, hy⟩ : ∃ y, y = L[j].val := ⟨_, rfl⟩
      obtain ⟨z, hz⟩ : ∃ y, y = L[j].gone := ⟨_, rfl⟩
      have HE : Hid (L[j] = ⟨x, y, z⟩) := Lib.hid (by rw [hx, hy, hz])
      rw [← hx, ← hy] at hms
      rw [← hx] at q0
      rw [← hy] at q1
      rw [← hz] at q2
      have c0 := HG.out.cell q0
      have c1 := HG.out.cell q1
      have c2 := HG.out.cell q2
      have u0 : (0 : Int) ≤ (j : Int) := by omega
      have u1 : (j : Int) < (n : Int) := by omega
      have HG2 := Lib.hid (HG.out.trans (gr_box wr (.cells #[.string x, .string y, .bool z] 70)))
      have HBAD : Hid (∀ k, chE ⟨x, y, z⟩ = k → k ≠ 0 → batchE L = k) := Lib.hid (fun k hk h0 => by
        rw [← HE.out] at hk
        rw [HBL.out, batchL_at hjL HB.out (by rw [hk]; exact h0), hk])
      have HGOOD : Hid (chE ⟨x, y, z⟩ = 0 → ∀ i (h : i < L.length), i < j + 1 → chE L[i] = 0) := Lib.hid (fun hk i h hi => by
        by_cases e : i = j
        · subst e; rw [HE.out]; exact hk
        · exact HB.out i h (by omega))
      clear q0 q1 q2 hx hy hz
      by_cases hx0 : x.size = 0
      · have HF := Lib.hid (HBAD.out 1 (by unfold chE; rw [if_pos (.inl hx0)]) (by decide))
        have v0 := size_zero_list hx0
        clear hx0
        clear HBAD HGOOD
        go_wp2_with fail
        go_ret
        exact ⟨by rw [HF.out]; rfl, HG2.out⟩
      have v0 := size_pos_list hx0
      rcases z with _ | _
      · by_cases hx1 : 64 < x.size
        · have HF := Lib.hid (HBAD.out 2 (by unfold chE; rw [if_neg (by simp [hx0]), if_pos (.inl hx1)]) (by decide))
          have v1 : (64 : Int) < (x.size : Int) := by omega
          clear hx0 hx1
          clear HBAD HGOOD
          go_wp2_with fail
          go_ret
          exact ⟨by rw [HF.out]; rfl, HG2.out⟩
        · have v1 : ¬ (64 : Int) < (x.size : Int) := by omega
          by_cases hy1 : 4096 < y.size
          · have HF := Lib.hid (HBAD.out 2 (by unfold chE; rw [if_neg (by simp [hx0]), if_pos (.inr hy1)]) (by decide))
            have v2 : (4096 : Int) < (y.size : Int) := by omega
            clear hx0 hx1 hy1
            clear HBAD HGOOD
            go_wp2_with fail
            go_ret
            exact ⟨by rw [HF.out]; rfl, HG2.out⟩
          · have HF := Lib.hid (HGOOD.out (by unfold chE; rw [if_neg (by simp [hx0]), if_neg (by intro hh; rcases hh with hh | hh; exact hx1 hh; exact hy1 hh)]))
            have v2 : ¬ (4096 : Int) < (y.size : Int) := by omega
            clear hx0 hx1 hy1
            clear HBAD HGOOD
            go_wp2_with fail
            go_roundg (n - (j + 1))
            case measure => omega
            case rel => exact ⟨j + 1, by go_num, by omega, Nat.le_refl _, HF, HG2⟩
      · by_cases hy0 : y.size = 0
        · have v3 := size_zero_list hy0
          have v2 : ¬ (4096 : Int) < (y.size : Int) := by omega
          by_cases hx1 : 64 < x.size
          · have HF := Lib.hid (HBAD.out 2 (by unfold chE; rw [if_neg (by simp [hx0, hy0]), if_pos (.inl hx1)]) (by decide))
            have v1 : (64 : Int) < (x.size : Int) := by omega
            clear hx0 hx1 hy0
            clear HBAD HGOOD
            go_wp2_with fail
            go_ret
            exact ⟨by rw [HF.out]; rfl, HG2.out⟩
          · have HF := Lib.hid (HGOOD.out (by unfold chE; rw [if_neg (by simp [hx0, hy0]), if_neg (by intro hh; rcases hh with hh | hh; exact hx1 hh; exact absurd hh (by show ¬ 4096 < y.size; omega))]))
            have v1 : ¬ (64 : Int) < (x.size : Int) := by omega
            clear hx0 hx1 hy0
            clear HBAD HGOOD
            go_wp2_with fail
            go_roundg (n - (j + 1))
            case measure => omega
            case rel => exact ⟨j + 1, by go_num, by omega, Nat.le_refl _, HF, HG2⟩
        · have HF := Lib.hid (HBAD.out 1 (by unfold chE; rw [if_pos (.inr ⟨rfl, hy0⟩)]) (by decide))
          have v3 := size_pos_list hy0
          clear hx0 hy0
          clear HBAD HGOOD
          go_wp2_with fail
          go_ret
          exact ⟨by rw [HF.out]; rfl, HG2.out⟩
    · have HF : Hid (batchE L = 0) := Lib.hid (by rw [HBL.out]; exact batchL_all fun i hi => HB.out i hi (by rw [← HN.out] at hi; omega))
      go_wp2_with fail
      go_ret
      exact ⟨by rw [HF.out]; rfl, HG.out⟩
end Go.Proofs.YtlnhbndghnkfmaaGreatDoor
