/- The library's Builder and Clone, by the shelf's contracts (proved once, over any program), at this program's numbers. Walks over package rule: wordsOf, strings.Join of words, Print. -/
import Derived.Test.YtnjmgknicffcbaaGreatDoorChecked
import Derived.Shelf.Strings.Builder1
import Derived.Shelf.Strings.Builder2
import Derived.Shelf.Strings.BuilderF
import Derived.Shelf.LaysM
import Derived.Test.YtnjmgknicffcbaaGreatDoorZb09
import Derived.Test.YtnjmgknicffcbaaGreatDoorZb50
namespace Go.Proofs.YtnjmgknicffcbaaGreatDoor
open Go.Shelf Go.RowKit
def lays166_ren : Go.Shelf.Ren := ⟨fun | 166 => 58 | 240 => 108 | 276 => 144 | n => n, fun | 0 => 0 | 3 => 3 | 4 => 4 | 5 => 5 | 9 => 9 | 20 => 20 | 37 => 81 | 70 => 101 | 72 => 103 | 75 => 105 | 80 => 111 | 164 => 184 | n => n, fun | n => n⟩
theorem lays166 : Go.Proofs.Lays.n166 Tryz.prog lays166_ren := {
  mixed := by kernel_rfl
  f166 := Tryz.func58.trans (congrArg some (by kernel_rfl))
  f240 := Tryz.func108.trans (congrArg some (by kernel_rfl))
  f276 := Tryz.func144.trans (congrArg some (by kernel_rfl))
  t0 := Tryz.underlying0
  a0 := Tryz.isAgg0
  z0 := Tryz.sizeOf0
  v0 := Tryz.zeroValue0
  t3 := Tryz.underlying3
  a3 := Tryz.isAgg3
  z3 := Tryz.sizeOf3
  v3 := Tryz.zeroValue3
  t4 := Tryz.underlying4
  a4 := Tryz.isAgg4
  z4 := Tryz.sizeOf4
  v4 := Tryz.zeroValue4
  t9 := Tryz.underlying9
  a9 := Tryz.isAgg9
  z9 := Tryz.sizeOf9
  v9 := Tryz.zeroValue9
  t20 := Tryz.underlying20
  a20 := Tryz.isAgg20
  z20 := Tryz.sizeOf20
  v20 := Tryz.zeroValue20
  t37 := Tryz.underlying81
  a37 := Tryz.isAgg81
  z37 := Tryz.sizeOf81
  v37 := Tryz.zeroValue81
  t70 := Tryz.underlying101
  a70 := Tryz.isAgg101
  z70 := Tryz.sizeOf101
  v70 := Tryz.zeroValue101
  t72 := Tryz.underlying103
  a72 := Tryz.isAgg103
  z72 := Tryz.sizeOf103
  v72 := Tryz.zeroValue103
  t75 := Tryz.underlying105
  a75 := Tryz.isAgg105
  z75 := Tryz.sizeOf105
  v75 := Tryz.zeroValue105
  t164 := Tryz.underlying184
  a164 := Tryz.isAgg184
  z164 := Tryz.sizeOf184
  v164 := Tryz.zeroValue184 }
theorem extra166 : Builder.Extra Tryz.prog lays166_ren := {
  sizeBuilder := by kernel_rfl
  liesBuilder := by kernel_rfl
  t5 := Tryz.underlying5
  a5 := Tryz.isAgg5
  z5 := Tryz.sizeOf5
  v5 := Tryz.zeroValue5
  infoByte := by kernel_rfl
  cellsByte := by kernel_rfl
  sizeByte := by kernel_rfl
  neB5 := by decide }
def lays167_ren : Go.Shelf.Ren := ⟨fun | 167 => 61 | 240 => 108 | 276 => 144 | n => n, fun | 0 => 0 | 4 => 4 | 5 => 5 | 9 => 9 | 20 => 20 | 37 => 81 | 70 => 101 | 72 => 103 | 75 => 105 | 80 => 111 | 164 => 184 | n => n, fun | n => n⟩
theorem lays167 : Go.Proofs.Lays.n167 Tryz.prog lays167_ren := {
  mixed := by kernel_rfl
  f167 := Tryz.func61.trans (congrArg some (by kernel_rfl))
  f240 := Tryz.func108.trans (congrArg some (by kernel_rfl))
  f276 := Tryz.func144.trans (congrArg some (by kernel_rfl))
  t0 := Tryz.underlying0
  a0 := Tryz.isAgg0
  z0 := Tryz.sizeOf0
  v0 := Tryz.zeroValue0
  t4 := Tryz.underlying4
  a4 := Tryz.isAgg4
  z4 := Tryz.sizeOf4
  v4 := Tryz.zeroValue4
  t5 := Tryz.underlying5
  a5 := Tryz.isAgg5
  z5 := Tryz.sizeOf5
  v5 := Tryz.zeroValue5
  t9 := Tryz.underlying9
  a9 := Tryz.isAgg9
  z9 := Tryz.sizeOf9
  v9 := Tryz.zeroValue9
  t20 := Tryz.underlying20
  a20 := Tryz.isAgg20
  z20 := Tryz.sizeOf20
  v20 := Tryz.zeroValue20
  t37 := Tryz.underlying81
  a37 := Tryz.isAgg81
  z37 := Tryz.sizeOf81
  v37 := Tryz.zeroValue81
  t70 := Tryz.underlying101
  a70 := Tryz.isAgg101
  z70 := Tryz.sizeOf101
  v70 := Tryz.zeroValue101
  t72 := Tryz.underlying103
  a72 := Tryz.isAgg103
  z72 := Tryz.sizeOf103
  v72 := Tryz.zeroValue103
  t75 := Tryz.underlying105
  a75 := Tryz.isAgg105
  z75 := Tryz.sizeOf105
  v75 := Tryz.zeroValue105
  t164 := Tryz.underlying184
  a164 := Tryz.isAgg184
  z164 := Tryz.sizeOf184
  v164 := Tryz.zeroValue184 }
theorem extra167 : Builder.Extra Tryz.prog lays167_ren := {
  sizeBuilder := by kernel_rfl
  liesBuilder := by kernel_rfl
  t5 := Tryz.underlying5
  a5 := Tryz.isAgg5
  z5 := Tryz.sizeOf5
  v5 := Tryz.zeroValue5
  infoByte := by kernel_rfl
  cellsByte := by kernel_rfl
  sizeByte := by kernel_rfl
  neB5 := by decide }
def lays169_ren : Go.Shelf.Ren := ⟨fun | 169 => 62 | n => n, fun | 0 => 0 | 3 => 3 | 5 => 5 | 9 => 9 | 37 => 81 | 70 => 101 | 72 => 103 | 127 => 152 | n => n, fun | n => n⟩
theorem lays169 : Go.Proofs.Lays.n169 Tryz.prog lays169_ren := {
  mixed := by kernel_rfl
  f169 := Tryz.func62.trans (congrArg some (by kernel_rfl))
  t0 := Tryz.underlying0
  a0 := Tryz.isAgg0
  z0 := Tryz.sizeOf0
  v0 := Tryz.zeroValue0
  t3 := Tryz.underlying3
  a3 := Tryz.isAgg3
  z3 := Tryz.sizeOf3
  v3 := Tryz.zeroValue3
  t9 := Tryz.underlying9
  a9 := Tryz.isAgg9
  z9 := Tryz.sizeOf9
  v9 := Tryz.zeroValue9
  t37 := Tryz.underlying81
  a37 := Tryz.isAgg81
  z37 := Tryz.sizeOf81
  v37 := Tryz.zeroValue81
  t70 := Tryz.underlying101
  a70 := Tryz.isAgg101
  z70 := Tryz.sizeOf101
  v70 := Tryz.zeroValue101
  t72 := Tryz.underlying103
  a72 := Tryz.isAgg103
  z72 := Tryz.sizeOf103
  v72 := Tryz.zeroValue103
  t127 := Tryz.underlying152
  a127 := Tryz.isAgg152
  z127 := Tryz.sizeOf152
  v127 := Tryz.zeroValue152 }
theorem extra169 : Builder.Extra Tryz.prog lays169_ren := {
  sizeBuilder := by kernel_rfl
  liesBuilder := by kernel_rfl
  t5 := Tryz.underlying5
  a5 := Tryz.isAgg5
  z5 := Tryz.sizeOf5
  v5 := Tryz.zeroValue5
  infoByte := by kernel_rfl
  cellsByte := by kernel_rfl
  sizeByte := by kernel_rfl
  neB5 := by decide }
theorem builder_write (B b : Nat) (bs : List Value) (s : ByteArray) (w : World) (h : Lib.IsBuilder 103 5 B b bs w) (hlen : bs.length + s.size ≤ 140737488355328) (hBw : B ≤ w.heap.size) :
    Calls Tryz.prog 58 #[.pointer (some ⟨b, 0, none⟩), .string s] w fun e w' => e = .returned (.tuple #[.int .i64 s.size, .nilIface]) ∧ (Lib.BuilderAt 103 5 B b (.pointer (some ⟨b, 0, none⟩)) (bs ++ Lib.strCells s) w' ∧ Below B w w') := Any.Builder_WriteString lays166 extra166 B b bs s w h hlen hBw
theorem builder_writeByte (B b : Nat) (bs : List Value) (x : Int) (w : World) (h : Lib.IsBuilder 103 5 B b bs w) (hlen : bs.length + 1 ≤ 140737488355328) (hBw : B ≤ w.heap.size) :
    Calls Tryz.prog 61 #[.pointer (some ⟨b, 0, none⟩), .int .u8 x] w fun e w' => e = .returned .nilIface ∧ (Lib.BuilderAt 103 5 B b (.pointer (some ⟨b, 0, none⟩)) (bs ++ [.int .u8 x]) w' ∧ Below B w w') := Any.Builder_WriteByte lays167 extra167 B b bs x w h hlen hBw
theorem builder_string (B b : Nat) (l : List UInt8) (w : World) (h : Lib.IsBuilder 103 5 B b (Lib.byteCells l) w) (hBw : B ≤ w.heap.size) :
    Calls Tryz.prog 62 #[.pointer (some ⟨b, 0, none⟩)] w fun e w' => e = .returned (.string ⟨l.toArray⟩) ∧ Below B w w' := Any.Builder_String_any lays169 extra169 B b l w h hBw
end Go.Proofs.YtnjmgknicffcbaaGreatDoor
namespace Go.Proofs.YtnjmgknicffcbaaGreatDoor
open Go.RowKit Go.Joins
set_option linter.unusedSimpArgs false
set_option linter.unusedVariables false

/-- The first j are turned, the others not yet. -/
def mixL (f : ByteArray → ByteArray) (N : List ByteArray) (j : Nat) : List ByteArray := (N.take j).map f ++ N.drop j
theorem mix_len (f : ByteArray → ByteArray) (N : List ByteArray) (j : Nat) : (mixL f N j).length = N.length := by
  unfold mixL; rw [List.length_append, List.length_map, List.length_take, List.length_drop]; omega
theorem mix_zero (f : ByteArray → ByteArray) (N : List ByteArray) : mixL f N 0 = N := by unfold mixL; simp
theorem mix_all (f : ByteArray → ByteArray) (N : List ByteArray) : mixL f N N.length = N.map f := by unfold mixL; simp
theorem mix_at (f : ByteArray → ByteArray) {N : List ByteArray} {j : Nat} (hj : j < N.length) (h : j < (mixL f N j).length) : (mixL f N j)[j] = N[j] := by
  have : (mixL f N j)[j]? = N[j]? := by
    unfold mixL
    rw [List.getElem?_append_right (by rw [List.length_map, List.length_take]; omega), List.length_map, List.length_take, Nat.min_eq_left (by omega), Nat.sub_self, List.getElem?_drop, Nat.add_zero]
  rw [List.getElem?_eq_getElem h, List.getElem?_eq_getElem hj] at this
  exact Option.some.inj this
theorem mix_set (f : ByteArray → ByteArray) {N : List ByteArray} {j : Nat} (hj : j < N.length) : (mixL f N j).set j (f N[j]) = mixL f N (j + 1) := by
  unfold mixL
  rw [List.drop_eq_getElem_cons hj, List.take_succ_eq_append_getElem hj, List.map_append, List.map_cons, List.map_nil]
  have hl : ((N.take j).map f).length = j := by rw [List.length_map, List.length_take]; omega
  rw [List.set_append_right _ _ (Nat.le_of_eq hl), hl, Nat.sub_self, List.set_cons_zero, List.append_assoc, List.singleton_append]
theorem SBox.set {w : World} {b : Nat} {L : List ByteArray} (h : SBox w b L) (j : Nat) (x : ByteArray) : SBox (w.setCell ⟨b, j, none⟩ (.string x)) b (L.set j x) := by
  have := set_obj (i := j) h (.string x)
  unfold SBox
  rw [this, List.map_set]
  simp
set_option maxRecDepth 100000 in
set_option maxHeartbeats 4000000 in
theorem wordsOf_any (r : RU) (hk : 1 ≤ r.k ∧ r.k ≤ 10) (hm : -9223372036854775808 ≤ r.min ∧ r.min ≤ 9223372036854775807) (hs : -9223372036854775808 ≤ r.start ∧ r.start ≤ 9223372036854775807) (w : World) (hp : Laid w) :
    Calls Tryz.prog 60 #[.agg (ruv r)] w fun e w' => ∃ b, e = .returned (.slice (some ⟨b, 0, none⟩) (names r.k).length (names r.k).length) ∧ SBox w' b (wordsR r) ∧ Gr w w' := by
  obtain ⟨W, hW, hg, hb⟩ : ∃ W, W = w.alloc (.cells (ruv r) 49) ∧ Gr w W ∧ RBox W w.heap.size r := ⟨_, rfl, (Gr.refl w).alloc _, heap_allocR _ _ _⟩
  have HG := Lib.hid hg
  have HB := Lib.hid hb
  have HP := Lib.hid hp
  obtain ⟨q, hq⟩ : ∃ q : Nat, r.k = (q : Int) + 1 := ⟨(r.k - 1).toNat, by omega⟩
  have HN := Lib.hid (namesOf_in q (by omega) W (hp.gr hg))
  have hn4 := names_le r.k
  rw [← hq] at HN
  have HTM := Lib.hid (fun w hp => rutext_any r.min hm.1 hm.2 w hp)
  have HTS := Lib.hid (fun w hp => rutext_any r.start hs.1 hs.2 w hp)
  obtain ⟨N, hNN⟩ : ∃ N, N = names r.k := ⟨_, rfl⟩
  have HWR : Hid (wordsR r = N.map (subR r)) := Lib.hid (by rw [hNN]; rfl)
  rw [← hNN] at HN hn4 ⊢
  obtain ⟨W1, hW1, hg1, hs1⟩ : ∃ X, X = W.alloc (.cells (N.map Value.string).toArray 9) ∧ Gr W X ∧ SBox X W.heap.size N := ⟨_, rfl, (Gr.refl W).alloc _, SBox.made W N⟩
  rw [← hW1] at HN
  have hbn : w.heap.size < W.heap.size := hb.lt
  obtain ⟨bn, hbne⟩ : ∃ b, b = W.heap.size := ⟨_, rfl⟩
  rw [← hbne] at HN hs1 hbn
  have HBN := Lib.hid hbn
  have HG1 := Lib.hid (hg.trans hg1)
  have HB1 := Lib.hid (hb.gr hg1)
  have HS1 := Lib.hid hs1
  obtain ⟨n, hn⟩ : ∃ n, n = N.length := ⟨_, rfl⟩
  have HL := Lib.hid hn
  rw [← hn] at HN hn4 ⊢
  obtain ⟨r0, r1, r2, r3, r4⟩ := hb.cell
  simp only [Nat.zero_add] at r0 r1 r2 r3 r4
  have HQ := Lib.hid hq
  clear hq hk hm hs hp hg hb hg1 hs1 hbn hbne hn hNN hW1
  go_enter Tryz.func60, Tryz.ntmps60
  go_upto_region 1 with (fail)
  rw [← hW]
  clear hW
  go_wp2_with fail
  refine HN.out.mono ?_
  rintro e w1 ⟨rfl, rfl⟩
  clear r0 r1 r2 r3 r4
  go_wp2_with fail
  go_loopw [4, 5, 11] (fun s4 s5 i wr => ∃ j : Nat, j ≤ n ∧ i = .int .i64 (j : Int) ∧ SBox wr bn (mixL (subR r) N j) ∧ RBox wr w.heap.size r ∧ Gr w wr) (fun s4 s5 i _ => n - (intOf i).toNat)
  case atStart => exact ⟨0, Nat.zero_le _, rfl, by rw [mix_zero]; exact HS1.out, HB1.out, HG1.out⟩
  case round =>
    obtain ⟨j, hj, rfl, hsb, hrb, hgr⟩ := hrel
    have HSB := Lib.hid hsb
    have HRB := Lib.hid hrb
    have HGR := Lib.hid hgr
    by_cases hlt : j < n
    · have hjN : j < N.length := by rw [← HL.out]; exact hlt
      have hjm : j < (mixL (subR r) N j).length := by rw [mix_len]; exact hjN
      have cj := hsb.cell hjm
      rw [mix_at _ hjN] at cj
      have hms := mix_set (subR r) hjN
      obtain ⟨y, hy⟩ : ∃ y, y = N[j] := ⟨_, rfl⟩
      rw [← hy] at cj hms
      have HMS := Lib.hid hms
      have fj : wr.frozen? ⟨bn, j, none⟩ = false := obj_free hsb
      obtain ⟨r0, r1, r2, r3, r4⟩ := hrb.cell
      simp only [Nat.zero_add] at r0 r1 r2 r3 r4
      have u0 : (0 : Int) ≤ (j : Int) := by omega
      have u1 : (j : Int) < (n : Int) := by omega
      have u2 : wrap64 ((j : Int) + 1) = ((j + 1 : Nat) : Int) := by unfold wrap64; omega
      have HFIN : Hid (∀ (x : ByteArray) (wz : World), subR r y = x → SBox wz bn (mixL (subR r) N j) → RBox wz w.heap.size r → Gr w wz → SBox (wz.setCell ⟨bn, j, none⟩ (.string x)) bn (mixL (subR r) N (j + 1)) ∧ RBox (wz.setCell ⟨bn, j, none⟩ (.string x)) w.heap.size r ∧ Gr w (wz.setCell ⟨bn, j, none⟩ (.string x))) := Lib.hid (fun x wz hx h1 h2 h3 => by
        refine ⟨?_, set_obj_other h2 (by have := HBN.out; omega) _, Below.setCell h3 (by have := HBN.out; show w.heap.size ≤ bn; omega) _⟩
        rw [← HMS.out, hx]
        exact h1.set j x)
      clear hsb hrb hgr hms hjm
      by_cases n1 : y = sKEY
      · subst n1
        unfold sKEY at cj
        have HX := Lib.hid (HFIN.out r.key wr (subR_key r) HSB.out HRB.out HGR.out)
        clear hy
        go_wp2_with fail
        go_roundw
        case rel => exact ⟨j + 1, by omega, by go_num, HX.out⟩
        case measure => simp [intOf]; omega
      by_cases n2 : y = sOTHER
      · subst n2
        unfold sOTHER at cj
        have HX := Lib.hid (HFIN.out r.other wr (subR_other r) HSB.out HRB.out HGR.out)
        clear hy n1
        go_wp2_with fail
        go_roundw
        case rel => exact ⟨j + 1, by omega, by go_num, HX.out⟩
        case measure => simp [intOf]; omega
      by_cases n3 : y = sMIN
      · subst n3
        unfold sMIN at cj
        clear hy n1 n2
        go_wp2_with fail
        refine (HTM.out _ (HP.out.gr HGR.out)).mono ?_
        rintro e w5 ⟨rfl, g5⟩
        have HX := Lib.hid (HFIN.out (tx r.min) w5 (subR_min r) (HSB.out.gr g5) (HRB.out.gr g5) (HGR.out.trans g5))
        unfold tx at HX
        have cj5 := g5.cell cj
        have fj5 : w5.frozen? ⟨bn, j, none⟩ = false := obj_free (HSB.out.gr g5)
        clear g5 cj fj r0 r1 r2 r3 r4
        go_wp2_with fail
        go_roundw
        case rel => exact ⟨j + 1, by omega, by go_num, HX.out⟩
        case measure => simp [intOf]; omega
      by_cases n4 : y = sSTART
      · subst n4
        unfold sSTART at cj
        clear hy n1 n2 n3
        go_wp2_with fail
        refine (HTS.out _ (HP.out.gr HGR.out)).mono ?_
        rintro e w5 ⟨rfl, g5⟩
        have HX := Lib.hid (HFIN.out (tx r.start) w5 (subR_start r) (HSB.out.gr g5) (HRB.out.gr g5) (HGR.out.trans g5))
        unfold tx at HX
        have cj5 := g5.cell cj
        have fj5 : w5.frozen? ⟨bn, j, none⟩ = false := obj_free (HSB.out.gr g5)
        clear g5 cj fj r0 r1 r2 r3 r4
        go_wp2_with fail
        go_roundw
        case rel => exact ⟨j + 1, by omega, by go_num, HX.out⟩
        case measure => simp [intOf]; omega
      · have lit : ∀ l : List UInt8, (y.toList == l) = eqS y ⟨l.toArray⟩ := fun l => by unfold eqS; rw [ByteArray.toList_eq ⟨l.toArray⟩]
        have t1 : (y.toList == [75, 69, 89]) = false := by rw [lit, eqS_dec]; exact decide_eq_false n1
        have t2 : (y.toList == [79, 84, 72, 69, 82]) = false := by rw [lit, eqS_dec]; exact decide_eq_false n2
        have t3 : (y.toList == [77, 73, 78]) = false := by rw [lit, eqS_dec]; exact decide_eq_false n3
        have t4 : (y.toList == [83, 84, 65, 82, 84]) = false := by rw [lit, eqS_dec]; exact decide_eq_false n4
        have HX : Hid (SBox wr bn (mixL (subR r) N (j + 1))) := Lib.hid (by
          have := HSB.out.set j y
          have e := HMS.out
          rw [subR_word r ⟨n1, n2, n3, n4⟩] at e
          have hj2 : j < (mixL (subR r) N j).length := by rw [mix_len, ← HL.out]; exact hlt
          have e2 : (mixL (subR r) N j).set j y = mixL (subR r) N j := by
            have := mix_at (subR r) (N := N) (j := j) (by rw [← HL.out]; exact hlt) hj2
            rw [hy, ← this]
            exact List.set_getElem_self hj2
          rw [← e, e2]
          exact HSB.out)
        clear lit n1 n2 n3 n4 hy
        go_wp2_with fail
        go_roundw
        case rel => exact ⟨j + 1, by omega, by go_num, HX.out, HRB.out, HGR.out⟩
        case measure => simp [intOf]; omega
    · obtain rfl : j = n := by omega
      have HX : Hid (SBox wr bn (wordsR r)) := Lib.hid (by rw [HWR.out, ← mix_all, ← HL.out]; exact HSB.out)
      have u1 : ¬ (j : Int) < (j : Int) := by omega
      clear hsb hrb hgr
      go_wp2_with fail
      go_ret
      exact ⟨bn, rfl, HX.out, HGR.out⟩
end Go.Proofs.YtnjmgknicffcbaaGreatDoor
