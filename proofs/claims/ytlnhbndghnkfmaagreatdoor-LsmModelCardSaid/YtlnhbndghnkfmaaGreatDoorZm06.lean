/- Walks: what scanning finds. Slices of strings: what a slice value reads as; rows of the call's own. Walks: scanning. The library's Builder and Clone, by the shelf's contracts (proved once, over any program), at this program's numbers. Plain: fields as bytes, and what is no longer than the limits. Walks: Unpack. -/
import Derived.Test.YtlnhbndghnkfmaaGreatDoorZm05
import Derived.Test.YtlnhbndghnkfmaaGreatDoorZm01
import Derived.Test.YtlnhbndghnkfmaaGreatDoorZm03
import Derived.Lib.Hide
import Derived.Test.YtlnhbndghnkfmaaGreatDoorChecked
import Derived.Shelf.Strings.Builder1
import Derived.Shelf.Strings.Builder2
import Derived.Shelf.Strings.BuilderF
import Derived.Shelf.LaysM
namespace Go.Proofs.YtlnhbndghnkfmaaGreatDoor
open Go.RowKit

theorem bs_data (s : ByteArray) : bs s.data.toList = s := Lib.mk_data s

def ffVal : Option (List UInt8) → Value
  | none => .tuple #[.string ⟨#[]⟩, .bool false]
  | some b => .tuple #[.string (bs b), .bool true]
/-- A quiet callee in a region behind earlier draws. -/
theorem quietMore {P : Program} {f : FuncId} {args : Array Value} {w : World} {a n : Nat} {v : Value} (h : ∀ k, Calls P f args (w.drewN k) fun e w' => e = .returned v ∧ ∃ m, w' = (w.drewN k).drewN m) :
    Calls P f args (w.drewN (a + n)) fun e w'' => e = .returned v ∧ ∃ m, w'' = w.drewN (a + m) :=
  (h (a + n)).mono fun _ _ ⟨he, m, hm⟩ => ⟨he, n + m, by rw [hm, World.drewN_drewN, Nat.add_assoc]⟩
theorem Halves.drewN {w : World} (h : Halves w) (n : Nat) : Halves (w.drewN n) := h.gr ((Gr.refl _).drewN n)

set_option maxRecDepth 100000 in
theorem firstFrame_any (s : ByteArray) (hs : s.size ≤ maxLen) (w : World) (hH : Halves w) :
    Calls Tryz.prog 174 #[.string s] w fun e w' => e = .returned (ffVal (first s.data.toList)) ∧ Gr w w' := by
  have hsz : s.data.toList.length = s.size := (Lib.size_eq s).symm
  by_cases h8 : s.size < 8
  · have HF := Lib.hid (show first s.data.toList = none from by unfold first; rw [if_pos (by omega)])
    clear hsz
    unfold maxLen at hs
    go_enter Tryz.func174, Tryz.ntmps174
    go_wp2
    go_ret2
    exact ⟨by rw [HF.out]; rfl, Gr.refl _⟩
  have h1 := fun k => readShort_any s hs (by omega) (w.drewN k)
  obtain ⟨n, hn⟩ : ∃ n, n = rdS s.data.toList := ⟨_, rfl⟩
  have hnl : n < 4294967296 := by rw [hn]; exact rdS_lt _
  rw [← hn] at h1
  have H1 := Lib.hid h1
  have hs2 : s.size ≤ 9223372036854775807 := by unfold maxLen at hs; omega
  have i8 : (8 : Int) ≤ (s.size : Int) := by omega
  have i4 : (4 : Int) ≤ (s.size : Int) := by omega
  by_cases hbig : 65536 < n
  · have HF := Lib.hid (show first s.data.toList = none from by unfold first; rw [if_neg (by omega), ← hn, if_pos (Or.inl hbig)])
    clear h1 hn hsz hs
    go_enter Tryz.func174, Tryz.ntmps174
    go_wp2_with fail
    go_quiet (with_reducible exact Calls.quiet_of (H1.out _))
    go_wp2
    go_ret2
    exact ⟨by rw [HF.out]; rfl, (Gr.refl _).drewN _⟩
  by_cases hfit : s.size < 8 + n
  · have HF := Lib.hid (show first s.data.toList = none from by unfold first; rw [if_neg (by omega), ← hn, if_pos (Or.inr (by omega))])
    clear h1 hn hsz hs
    go_enter Tryz.func174, Tryz.ntmps174
    go_wp2_with fail
    go_quiet (with_reducible exact Calls.quiet_of (H1.out _))
    go_wp2
    go_ret2
    exact ⟨by rw [HF.out]; rfl, (Gr.refl _).drewN _⟩
  obtain ⟨r, hr⟩ : ∃ r, r = s.extract 8 s.size := ⟨_, rfl⟩
  obtain ⟨b, hb⟩ : ∃ b, b = (s.extract 8 s.size).extract 0 n := ⟨_, rfl⟩
  have hrz : (s.extract 8 s.size).size = s.size - 8 := by rw [ByteArray.size_extract]; omega
  have hrd : (s.extract 8 s.size).data.toList = s.data.toList.drop 8 := by rw [Lib.extract_data, List.take_of_length_le (by first | (simp; done) | (simp; omega))]
  have hbd : b.data.toList = (s.data.toList.drop 8).take n := by rw [hb, Lib.extract_data, hrd, List.drop_zero, Nat.sub_zero]
  have hbz : b.size = n := by rw [hb, ByteArray.size_extract, hrz]; omega
  have h2 := fun k => readShort_any (s.extract 4 s.size) (by rw [ByteArray.size_extract]; unfold maxLen; omega) (by rw [ByteArray.size_extract]; omega) (w.drewN k)
  have hd4 : (s.extract 4 s.size).data.toList = s.data.toList.drop 4 := by rw [Lib.extract_data, List.take_of_length_le (by first | (simp; done) | (simp; omega))]
  rw [hd4] at h2
  have h3 := fun k => frameSum_any (s.extract 0 4) b (by rw [ByteArray.size_extract]; unfold maxLen; omega) (by rw [hbz]; unfold maxLen; omega) (w.drewN k) (hH.drewN k)
  have hd0 : (s.extract 0 4).data.toList = s.data.toList.take 4 := by rw [Lib.extract_data, List.drop_zero, Nat.sub_zero]
  rw [hd0, hbd] at h3
  have hx := rdS_lt (s.data.toList.drop 4)
  obtain ⟨x, hxe⟩ : ∃ x, x = rdS (s.data.toList.drop 4) := ⟨_, rfl⟩
  obtain ⟨y, hye⟩ : ∃ y, y = Crc.sum (s.data.toList.take 4 ++ (s.data.toList.drop 8).take n) := ⟨_, rfl⟩
  rw [← hxe] at h2
  rw [← hye] at h3
  rw [hb] at h3
  have h3' : ∀ k, Calls Tryz.prog 169 #[.string (s.extract 0 4), .string ((s.extract 8 s.size).extract 0 n)] (w.drewN k) fun e w' => e = .returned (.int .u32 (y : Nat)) ∧ ∃ m, w' = (w.drewN k).drewN m := fun k => (h3 k).mono fun e w' ⟨a, b⟩ => ⟨a, 0, by rw [← b]; rfl⟩
  have H2 := Lib.hid h2
  have H3 := Lib.hid h3'
  have hn8 : 8 + n ≤ s.size := by omega
  have hn6 : n ≤ 65536 := by omega
  by_cases heq : x = y
  · have HF := Lib.hid (show ffVal (first s.data.toList) = .tuple #[.string ((s.extract 8 s.size).extract 0 n), .bool true] from by
      have : first s.data.toList = some b.data.toList := by unfold first; rw [if_neg (by omega), ← hn, if_neg (by omega), ← hxe, ← hye, if_pos heq, hbd]
      rw [this]; unfold ffVal; simp only []; rw [bs_data, hb])
    have ht : ((x : Int) != (y : Int)) = false := by rw [heq]; simp
    clear h1 h2 h3 h3' hn hsz hs hd0 hd4 hbd hrd hxe hye hr hb heq hbz
    go_enter Tryz.func174, Tryz.ntmps174
    go_wp2_with fail
    go_quiet (with_reducible exact Calls.quiet_of (H1.out _))
    go_wp2
    go_quiet ((first | with_reducible exact quietMore H2.out | with_reducible exact quietMore H3.out))
    go_wp2
    go_ret2
    exact ⟨by rw [HF.out]; rfl, ((Gr.refl _).drewN _).drewN _⟩
  · have HF := Lib.hid (show first s.data.toList = none from by
      unfold first; rw [if_neg (by omega), ← hn, if_neg (by omega), ← hxe, ← hye, if_neg heq])
    have ht : ((x : Int) != (y : Int)) = true := by rw [bne_iff_ne]; omega
    clear h1 h2 h3 h3' hn hsz hs hd0 hd4 hbd hrd hxe hye hr hb heq hbz
    go_enter Tryz.func174, Tryz.ntmps174
    go_wp2_with fail
    go_quiet (with_reducible exact Calls.quiet_of (H1.out _))
    go_wp2
    go_quiet ((first | with_reducible exact quietMore H2.out | with_reducible exact quietMore H3.out))
    go_wp2
    go_ret2
    exact ⟨by rw [HF.out]; rfl, ((Gr.refl _).drewN _).drewN _⟩
end Go.Proofs.YtlnhbndghnkfmaaGreatDoor
namespace Go.Proofs.YtlnhbndghnkfmaaGreatDoor
open Go.RowKit

/-- The slice value v reads as the strings L. -/
def SV (w : World) (v : Value) (L : List ByteArray) : Prop :=
  ∃ A c, v = .slice A L.length c ∧ L.length ≤ c ∧ (c ≤ maxLen ∧ (A = Option.none → c = 0)) ∧ ∀ j (hj : j < L.length), ∃ b off, A = some ⟨b, off, none⟩ ∧ w.cell? ⟨b, off + j, none⟩ = some (.string L[j])

theorem SV.gr {w w' : World} {v : Value} {L : List ByteArray} (h : SV w v L) (g : Gr w w') : SV w' v L := by
  obtain ⟨A, c, hv, h1, h2, h3⟩ := h
  refine ⟨A, c, hv, h1, h2, fun j hj => ?_⟩
  obtain ⟨b, off, ha, hc⟩ := h3 j hj
  exact ⟨b, off, ha, g.cell hc⟩
theorem SV.nil (w : World) : SV w (.slice none 0 0) [] := ⟨none, 0, rfl, Nat.le_refl _, ⟨Nat.zero_le _, fun _ => rfl⟩, fun j hj => absurd hj (by simp)⟩

theorem SV.of_own {w : World} {base : Nat} {e : TypeId} {v : Value} {L : List ByteArray} (h : w.ownsRow base e 1 v L.length (L.map Value.string)) : SV w v L := by
  rcases h.2 with ⟨rfl, h0⟩ | ⟨g, cap, cur, rfl, hb, hg, hn, hm, hc, ht⟩
  · have : L = [] := List.length_eq_zero_iff.1 h0
    subst this
    exact SV.nil w
  · refine ⟨_, cap, rfl, hn, ⟨hm, fun h => by cases h⟩, fun j hj => ⟨g, 0, rfl, ?_⟩⟩
    rw [Nat.zero_add, h.cellAt j (by omega)]
    simp [hj]
theorem infoString : (Tryz.prog.info? 9).map (fun i => (i.zero, i.size, i.bytes)) = some (some (.string ⟨#[]⟩), 1, 16) := by kernel_rfl

/-- A call's answer: a slice of strings in new memory, and a number. -/
def RetSVInt (L : List ByteArray) (k : Nat) (w : World) (e : Ending) (w' : World) : Prop :=
  ∃ v, e = .returned (.tuple #[v, .int .i64 (k : Int)]) ∧ w'.ownsRow w.heap.size 9 1 v L.length (L.map Value.string) ∧ Gr w w'
end Go.Proofs.YtlnhbndghnkfmaaGreatDoor
namespace Go.Proofs.YtlnhbndghnkfmaaGreatDoor
open Go.RowKit

theorem extract_drop (s : ByteArray) (k : Nat) : (s.extract k s.size).data.toList = s.data.toList.drop k := by
  rw [Lib.extract_data, List.take_of_length_le (by simp)]
theorem append_ones (L : List (List UInt8)) (b : List UInt8) : (L ++ [b]).map bs = L.map bs ++ [bs b] := by simp
def ScanRel (s : ByteArray) (w : World) (v i : Value) (wr : World) : Prop :=
  ∃ (L : List (List UInt8)), i = .int .i64 (bytesOf L : Nat) ∧ wr.ownsRow w.heap.size 9 1 v (L.map bs).length ((L.map bs).map Value.string) ∧ Gr w wr ∧ bytesOf L ≤ s.size ∧
    scanAll s.data.toList = L ++ scanAll (s.data.toList.drop (bytesOf L))

set_option maxRecDepth 100000 in
set_option maxHeartbeats 1000000 in
theorem scan_any (s : ByteArray) (hs : s.size ≤ 9223372036854775000) (hcount : (scanAll s.data.toList).length * 16 ≤ 140737488355328) (w : World) (hH : Halves w) :
    Calls Tryz.prog 143 #[.string s] w fun e w' => RetSVInt ((scanAll s.data.toList).map bs) (bytesOf (scanAll s.data.toList)) w e w' := by
  obtain ⟨i0, hi, hz0, hz1, hz2⟩ := info_parts infoString
  have HI := Lib.hid (And.intro hi (And.intro hz0 (And.intro hz1 hz2)))
  clear hi hz0 hz1 hz2
  have hsz : s.data.toList.length = s.size := (Lib.size_eq s).symm
  have HZ := Lib.hid hsz
  clear hsz
  go_enter Tryz.func143, Tryz.ntmps143
  go_wp2_with fail
  go_loopw [4, 5] (fun v i wr => ScanRel s w v i wr) (fun _ i _ => s.size + 1 - (intOf i).toNat)
  case atStart => exact ⟨[], rfl, World.ownsRow_nil _ _ _ _, Gr.refl _, Nat.zero_le _, rfl⟩
  case round =>
    obtain ⟨L, rfl, hown, hgr, hk, hsc⟩ := hrel
    obtain ⟨k, hke⟩ : ∃ k, k = bytesOf L := ⟨_, rfl⟩
    rw [← hke] at hk hsc
    have hc1 := firstFrame_any (s.extract k s.size) (by rw [ByteArray.size_extract]; unfold maxLen; omega) wr (hH.gr hgr)
    rw [extract_drop] at hc1
    obtain ⟨o, ho⟩ : ∃ o, o = first (s.data.toList.drop k) := ⟨_, rfl⟩
    rw [← ho] at hc1
    rw [← hke]
    cases o with
    | none =>
      have hend : scanAll s.data.toList = L := by rw [hsc, scanAll_none ho.symm, List.append_nil]
      have hv : ffVal none = .tuple #[.string ⟨#[]⟩, .bool false] := rfl
      rw [hv] at hc1
      have H1 := Lib.hid hc1
      have HE := Lib.hid hend
      have HO := Lib.hid hown
      have HK := Lib.hid hke
      clear hc1 hend hown hke ho hsc hv
      go_wp2_with fail
      refine H1.out.mono ?_
      rintro e w1 ⟨rfl, g1⟩
      go_wp2_with fail
      go_ret2
      have hO := own_gr HO.out g1
      rw [HE.out, ← HK.out]
      exact ⟨_, rfl, hO, hgr.trans g1⟩
    | some b =>
      have hb := first_len ho.symm
      rw [List.length_drop, HZ.out] at hb
      have hv : ffVal (some b) = .tuple #[.string (bs b), .bool true] := rfl
      rw [hv] at hc1
      have hc2 := fun w => clone_any (bs b) (by rw [bs_size]; omega) w
      have hbz := bs_size b
      have hsc2 : scanAll s.data.toList = (L ++ [b]) ++ scanAll (s.data.toList.drop (bytesOf (L ++ [b]))) := by
        rw [hsc, scanAll_some ho.symm, List.drop_drop, List.append_assoc, bytesOf_append, ← hke]
        rfl
      have hcnt : (L.map bs).length * 16 + 16 ≤ 140737488355328 := by
        rw [hsc2] at hcount
        rw [List.length_append, List.length_append] at hcount
        rw [List.length_map]
        simp only [List.length_cons, List.length_nil] at hcount
        omega
      have hby : bytesOf (L ++ [b]) = k + (8 + b.length) := by rw [bytesOf_append, ← hke]; rfl
      obtain ⟨B, hB⟩ : ∃ B, B = bs b := ⟨_, rfl⟩
      obtain ⟨bl, hbl⟩ : ∃ n, n = b.length := ⟨_, rfl⟩
      obtain ⟨n, hn⟩ : ∃ n, n = (L.map bs).length := ⟨_, rfl⟩
      have hxs := append_ones L b
      rw [← hn] at hown hcnt
      obtain ⟨xs, hx⟩ : ∃ xs, xs = (L.map bs).map Value.string := ⟨_, rfl⟩
      rw [← hx] at hown
      rw [← hB] at hc1 hc2 hbz hxs
      rw [← hbl] at hb hbz hby
      have H1 := Lib.hid hc1
      have H2 := Lib.hid hc2
      have HK := Lib.hid hke
      have HS := Lib.hid hsc2
      have HY := Lib.hid hby
      have HX := Lib.hid hx
      have HXS := Lib.hid hxs
      have HN := Lib.hid hn
      have HO := Lib.hid hown
      clear hc1 hc2 hke hsc hsc2 hv ho hby hcount hB hbl hn hxs hx hown
      go_wp2_with fail
      refine H1.out.mono ?_
      rintro e w1 ⟨rfl, g1⟩
      go_wp2_with fail
      refine (H2.out _).mono ?_
      rintro e w2 ⟨rfl, g2⟩
      have hO := own_gr (own_gr HO.out g1) g2
      have hB2 : w.heap.size ≤ w2.heap.size := by have := hgr.size; have := g1.size; have := g2.size; omega
      have hgr2 : Below w.heap.size w w2 := (hgr.trans g1).trans g2
      go_wp2_with (at_builtin; refine wpList_append_own _ rfl (.tmp 19) (.tmp 22) 28 rfl w.heap.size 9 i0 (.string ⟨#[]⟩) 1 16 Tryz.underlying28 HI.out.1 HI.out.2.1 HI.out.2.2.1 HI.out.2.2.2 rfl (by decide) _ _ _ rfl (hO.alloc _) ⟨w2.heap.size, 0, none⟩ 1 1 [.string B] rfl rfl ?c1 ?c2 ?c3 ?c4 ?c5 ?_)
      case c1 => exact cell_one_new _ _ _
      case c2 => simp [Value.oneCell']
      case c3 => unfold maxLen; omega
      case c4 => omega
      case c5 => simp; omega
      intro v' w3 hown3 hgrow _
      have hgr3 : Below w.heap.size w w3 := gr_of_grown (hgr2.alloc hB2 _) (hO.alloc _) hgrow (by simp; omega)
      have HO3 := Lib.hid hown3
      clear hown3 hgrow hO hgr2
      go_wp2
      go_roundw
      case rel => exact ⟨L ++ [b], by rw [HY.out]; go_num, by rw [HXS.out, List.length_append, List.map_append, ← HX.out, ← HN.out]; exact HO3.out, hgr3, by rw [HY.out]; omega, HS.out⟩
      case measure => simp [intOf]; omega
end Go.Proofs.YtlnhbndghnkfmaaGreatDoor
namespace Go.Proofs.YtlnhbndghnkfmaaGreatDoor
open Go.Shelf Go.RowKit
def lays165_ren : Go.Shelf.Ren := ⟨fun | 165 => 167 | 240 => 177 | 241 => 179 | 276 => 185 | 277 => 187 | n => n, fun | 0 => 0 | 3 => 3 | 4 => 4 | 5 => 5 | 9 => 9 | 20 => 20 | 37 => 121 | 70 => 175 | 72 => 177 | 164 => 208 | n => n, fun | n => n⟩
theorem lays165 : Go.Proofs.Lays.n165 Tryz.prog lays165_ren := {
  mixed := by kernel_rfl
  f165 := Tryz.func167.trans (congrArg some (by kernel_rfl))
  f240 := Tryz.func177.trans (congrArg some (by kernel_rfl))
  f241 := Tryz.func179.trans (congrArg some (by kernel_rfl))
  f276 := Tryz.func185.trans (congrArg some (by kernel_rfl))
  f277 := Tryz.func187.trans (congrArg some (by kernel_rfl))
  t0 := Tryz.underlying0
  a0 := Tryz.isAgg0
  z0 := Tryz.sizeOf0
  v0 := Tryz.zeroValue0
  t3 := Tryz.underlying3
  a3 := Tryz.isAgg3
  z3 := Tryz.sizeOf3
  v3 := Tryz.zeroValue3
  t4 := Tryz.underlying4
  a4 := Tryz.isAgg4
  z4 := Tryz.sizeOf4
  v4 := Tryz.zeroValue4
  t9 := Tryz.underlying9
  a9 := Tryz.isAgg9
  z9 := Tryz.sizeOf9
  v9 := Tryz.zeroValue9
  t20 := Tryz.underlying20
  a20 := Tryz.isAgg20
  z20 := Tryz.sizeOf20
  v20 := Tryz.zeroValue20
  t37 := Tryz.underlying121
  a37 := Tryz.isAgg121
  z37 := Tryz.sizeOf121
  v37 := Tryz.zeroValue121
  t70 := Tryz.underlying175
  a70 := Tryz.isAgg175
  z70 := Tryz.sizeOf175
  v70 := Tryz.zeroValue175
  t72 := Tryz.underlying177
  a72 := Tryz.isAgg177
  z72 := Tryz.sizeOf177
  v72 := Tryz.zeroValue177
  t164 := Tryz.underlying208
  a164 := Tryz.isAgg208
  z164 := Tryz.sizeOf208
  v164 := Tryz.zeroValue208 }
theorem extra165 : Builder.Extra Tryz.prog lays165_ren := {
  sizeBuilder := by kernel_rfl
  liesBuilder := by kernel_rfl
  t5 := Tryz.underlying5
  a5 := Tryz.isAgg5
  z5 := Tryz.sizeOf5
  v5 := Tryz.zeroValue5
  infoByte := by kernel_rfl
  cellsByte := by kernel_rfl
  sizeByte := by kernel_rfl
  neB5 := by decide }
def lays166_ren : Go.Shelf.Ren := ⟨fun | 166 => 161 | 240 => 177 | 276 => 185 | n => n, fun | 0 => 0 | 3 => 3 | 4 => 4 | 5 => 5 | 9 => 9 | 20 => 20 | 37 => 121 | 70 => 175 | 72 => 177 | 75 => 181 | 80 => 184 | 164 => 208 | n => n, fun | n => n⟩
theorem lays166 : Go.Proofs.Lays.n166 Tryz.prog lays166_ren := {
  mixed := by kernel_rfl
  f166 := Tryz.func161.trans (congrArg some (by kernel_rfl))
  f240 := Tryz.func177.trans (congrArg some (by kernel_rfl))
  f276 := Tryz.func185.trans (congrArg some (by kernel_rfl))
  t0 := Tryz.underlying0
  a0 := Tryz.isAgg0
  z0 := Tryz.sizeOf0
  v0 := Tryz.zeroValue0
  t3 := Tryz.underlying3
  a3 := Tryz.isAgg3
  z3 := Tryz.sizeOf3
  v3 := Tryz.zeroValue3
  t4 := Tryz.underlying4
  a4 := Tryz.isAgg4
  z4 := Tryz.sizeOf4
  v4 := Tryz.zeroValue4
  t9 := Tryz.underlying9
  a9 := Tryz.isAgg9
  z9 := Tryz.sizeOf9
  v9 := Tryz.zeroValue9
  t20 := Tryz.underlying20
  a20 := Tryz.isAgg20
  z20 := Tryz.sizeOf20
  v20 := Tryz.zeroValue20
  t37 := Tryz.underlying121
  a37 := Tryz.isAgg121
  z37 := Tryz.sizeOf121
  v37 := Tryz.zeroValue121
  t70 := Tryz.underlying175
  a70 := Tryz.isAgg175
  z70 := Tryz.sizeOf175
  v70 := Tryz.zeroValue175
  t72 := Tryz.underlying177
  a72 := Tryz.isAgg177
  z72 := Tryz.sizeOf177
  v72 := Tryz.zeroValue177
  t75 := Tryz.underlying181
  a75 := Tryz.isAgg181
  z75 := Tryz.sizeOf181
  v75 := Tryz.zeroValue181
  t164 := Tryz.underlying208
  a164 := Tryz.isAgg208
  z164 := Tryz.sizeOf208
  v164 := Tryz.zeroValue208 }
theorem extra166 : Builder.Extra Tryz.prog lays166_ren := {
  sizeBuilder := by kernel_rfl
  liesBuilder := by kernel_rfl
  t5 := Tryz.underlying5
  a5 := Tryz.isAgg5
  z5 := Tryz.sizeOf5
  v5 := Tryz.zeroValue5
  infoByte := by kernel_rfl
  cellsByte := by kernel_rfl
  sizeByte := by kernel_rfl
  neB5 := by decide }
def lays169_ren : Go.Shelf.Ren := ⟨fun | 169 => 162 | n => n, fun | 0 => 0 | 3 => 3 | 5 => 5 | 9 => 9 | 37 => 121 | 70 => 175 | 72 => 177 | 127 => 163 | n => n, fun | n => n⟩
theorem lays169 : Go.Proofs.Lays.n169 Tryz.prog lays169_ren := {
  mixed := by kernel_rfl
  f169 := Tryz.func162.trans (congrArg some (by kernel_rfl))
  t0 := Tryz.underlying0
  a0 := Tryz.isAgg0
  z0 := Tryz.sizeOf0
  v0 := Tryz.zeroValue0
  t3 := Tryz.underlying3
  a3 := Tryz.isAgg3
  z3 := Tryz.sizeOf3
  v3 := Tryz.zeroValue3
  t9 := Tryz.underlying9
  a9 := Tryz.isAgg9
  z9 := Tryz.sizeOf9
  v9 := Tryz.zeroValue9
  t37 := Tryz.underlying121
  a37 := Tryz.isAgg121
  z37 := Tryz.sizeOf121
  v37 := Tryz.zeroValue121
  t70 := Tryz.underlying175
  a70 := Tryz.isAgg175
  z70 := Tryz.sizeOf175
  v70 := Tryz.zeroValue175
  t72 := Tryz.underlying177
  a72 := Tryz.isAgg177
  z72 := Tryz.sizeOf177
  v72 := Tryz.zeroValue177
  t127 := Tryz.underlying163
  a127 := Tryz.isAgg163
  z127 := Tryz.sizeOf163
  v127 := Tryz.zeroValue163 }
theorem extra169 : Builder.Extra Tryz.prog lays169_ren := {
  sizeBuilder := by kernel_rfl
  liesBuilder := by kernel_rfl
  t5 := Tryz.underlying5
  a5 := Tryz.isAgg5
  z5 := Tryz.sizeOf5
  v5 := Tryz.zeroValue5
  infoByte := by kernel_rfl
  cellsByte := by kernel_rfl
  sizeByte := by kernel_rfl
  neB5 := by decide }
theorem builder_grow (B b n : Nat) (w : World) (hB : B ≤ b) (hbk : w.heap[b]? = some (.cells #[.pointer none, .slice none 0 0] 177 (0, 0))) (hBw : B ≤ w.heap.size) (hn : n ≤ 281474976710656) :
    Calls Tryz.prog 167 #[.pointer (some ⟨b, 0, none⟩), .int .i64 n] w fun e w' => e = .returned (.tuple #[]) ∧ (Lib.BuilderAt 177 5 B b (.pointer (some ⟨b, 0, none⟩)) [] w' ∧ Below B w w') := Any.Builder_Grow_fresh lays165 extra165 B b n w hB hbk hBw hn
theorem builder_write (B b : Nat) (bs : List Value) (s : ByteArray) (w : World) (h : Lib.IsBuilder 177 5 B b bs w) (hlen : bs.length + s.size ≤ 140737488355328) (hBw : B ≤ w.heap.size) :
    Calls Tryz.prog 161 #[.pointer (some ⟨b, 0, none⟩), .string s] w fun e w' => e = .returned (.tuple #[.int .i64 s.size, .nilIface]) ∧ (Lib.BuilderAt 177 5 B b (.pointer (some ⟨b, 0, none⟩)) (bs ++ Lib.strCells s) w' ∧ Below B w w') := Any.Builder_WriteString lays166 extra166 B b bs s w h hlen hBw
theorem builder_string (B b : Nat) (l : List UInt8) (w : World) (h : Lib.IsBuilder 177 5 B b (Lib.byteCells l) w) (hBw : B ≤ w.heap.size) :
    Calls Tryz.prog 162 #[.pointer (some ⟨b, 0, none⟩)] w fun e w' => e = .returned (.string ⟨l.toArray⟩) ∧ Below B w w' := Any.Builder_String_any lays169 extra169 B b l w h hBw
end Go.Proofs.YtlnhbndghnkfmaaGreatDoor
namespace Go.Proofs.YtlnhbndghnkfmaaGreatDoor
open Go.RowKit

/-- How many bytes the fields take behind the count. -/
def tot : List ByteArray → Nat
  | [] => 0
  | s :: r => 4 + s.size + tot r
def flat : List ByteArray → List UInt8
  | [] => []
  | s :: r => be4 s.size ++ (s.data.toList ++ flat r)
def packL (L : List ByteArray) : List UInt8 := be4 L.length ++ flat L
def okPack (L : List ByteArray) : Prop := L.length ≤ 4096 ∧ (∀ s ∈ L, s.size ≤ 65536) ∧ 4 + tot L ≤ 1048576
/-- What Pack answers. -/
noncomputable def packVal (L : List ByteArray) : Value := by
  classical exact if okPack L then .tuple #[.string (bs (packL L)), .int .i64 0] else .tuple #[.string ⟨#[]⟩, .int .i64 2]
theorem packVal_yes {L : List ByteArray} (h : okPack L) : packVal L = .tuple #[.string (bs (packL L)), .int .i64 0] := by unfold packVal; rw [if_pos h]
theorem packVal_no {L : List ByteArray} (h : ¬ okPack L) : packVal L = .tuple #[.string ⟨#[]⟩, .int .i64 2] := by unfold packVal; rw [if_neg h]

theorem tot_append (a b : List ByteArray) : tot (a ++ b) = tot a + tot b := by
  induction a with
  | nil => simp [tot]
  | cons x a ih => simp only [List.cons_append, tot, ih]; omega
theorem tot_take_le (L : List ByteArray) (k : Nat) : tot (L.take k) ≤ tot L := by
  have := tot_append (L.take k) (L.drop k)
  rw [List.take_append_drop] at this
  omega
theorem tot_take_succ (L : List ByteArray) (k : Nat) (h : k < L.length) : tot (L.take (k + 1)) = tot (L.take k) + (4 + L[k].size) := by
  rw [List.take_succ_eq_append_getElem h, tot_append]; simp [tot]
theorem flat_append (a b : List ByteArray) : flat (a ++ b) = flat a ++ flat b := by
  induction a with
  | nil => rfl
  | cons x a ih => simp only [List.cons_append, flat, ih, List.append_assoc]
theorem flat_take_succ (L : List ByteArray) (k : Nat) (h : k < L.length) : flat (L.take (k + 1)) = flat (L.take k) ++ (be4 L[k].size ++ L[k].data.toList) := by
  rw [List.take_succ_eq_append_getElem h, flat_append]; simp [flat]
theorem be4_length (n : Nat) : (be4 n).length = 4 := rfl
theorem flat_length (L : List ByteArray) : (flat L).length = tot L := by
  induction L with
  | nil => rfl
  | cons x a ih => simp only [flat, tot, List.length_append, be4_length, ih, ← Lib.size_eq]; omega
theorem packL_length (L : List ByteArray) : (packL L).length = 4 + tot L := by
  unfold packL; rw [List.length_append, be4_length, flat_length]
theorem tot_bound (L : List ByteArray) (k : Nat) (h : ∀ s ∈ L, s.size ≤ k) : tot L ≤ (4 + k) * L.length := by
  induction L with
  | nil => exact Nat.zero_le _
  | cons x a ih =>
    have h1 := h x (by simp)
    have h2 := ih (fun s hs => h s (by simp [hs]))
    simp only [tot, List.length_cons]
    rw [Nat.mul_succ]
    omega

theorem BuilderAt.gr {T e : TypeId} {B b : Nat} {p : Value} {l : List Value} {w w' : World} (h : Lib.BuilderAt T e B b p l w) (g : Gr w w') : Lib.BuilderAt T e B b p l w' := by
  obtain ⟨h1, v, h2, h3, h4⟩ := h
  refine ⟨h1, v, ?_, own_gr h3 g, h4⟩
  rw [g.block b (Array.getElem?_eq_some_iff.1 h2).1]
  exact h2
end Go.Proofs.YtlnhbndghnkfmaaGreatDoor
namespace Go.Proofs.YtlnhbndghnkfmaaGreatDoor
open Go.RowKit

def fieldF (l : List UInt8) : Option (List UInt8) :=
  if l.length < 4 then none
  else if 65536 < rdS l ∨ l.length < 4 + rdS l then none
  else some ((l.drop 4).take (rdS l))
theorem fieldF_len {l b : List UInt8} (h : fieldF l = some b) : 4 + b.length ≤ l.length ∧ b.length ≤ 65536 ∧ b.length = rdS l := by
  unfold fieldF at h
  split at h
  · cases h
  split at h
  · cases h
  · injection h with h
    rw [← h, List.length_take, List.length_drop]
    omega
def unpackN : Nat → List UInt8 → Option (List (List UInt8) × List UInt8)
  | 0, l => some ([], l)
  | k + 1, l => match fieldF l with
    | none => none
    | some f => match unpackN k (l.drop (4 + f.length)) with
      | none => none
      | some (fs, r) => some (f :: fs, r)
theorem unpackN_none {k : Nat} {l : List UInt8} (h : fieldF l = none) : unpackN (k + 1) l = none := by simp [unpackN, h]
theorem unpackN_some {k : Nat} {l f : List UInt8} (h : fieldF l = some f) : unpackN (k + 1) l = (unpackN k (l.drop (4 + f.length))).map fun p => (f :: p.1, p.2) := by
  simp only [unpackN, h]
  cases unpackN k (l.drop (4 + f.length)) with
  | none => rfl
  | some p => rfl
def wholeU : Option (List (List UInt8) × List UInt8) → Option (List (List UInt8))
  | some (fs, []) => some fs
  | _ => none
def unpackL (l : List UInt8) : Option (List (List UInt8)) :=
  if l.length < 4 ∨ 1048576 < l.length then none
  else if 4096 < rdS l then none
  else wholeU (unpackN (rdS l) (l.drop 4))
def RetUnpack (o : Option (List (List UInt8))) (w : World) (e : Ending) (w' : World) : Prop :=
  match o with
  | none => e = .returned (.tuple #[.slice none 0 0, .int .i64 3]) ∧ Gr w w'
  | some fs => ∃ v, e = .returned (.tuple #[v, .int .i64 0]) ∧ w'.ownsRow w.heap.size 9 1 v (fs.map bs).length ((fs.map bs).map Value.string) ∧ Gr w w'

set_option maxRecDepth 100000 in
theorem firstField_any (s : ByteArray) (hs : s.size ≤ maxLen) (w : World) :
    Calls Tryz.prog 151 #[.string s] w fun e w' => e = .returned (ffVal (fieldF s.data.toList)) ∧ Gr w w' := by
  have hsz : s.data.toList.length = s.size := (Lib.size_eq s).symm
  by_cases h4 : s.size < 4
  · have HF := Lib.hid (show fieldF s.data.toList = none from by unfold fieldF; rw [if_pos (by omega)])
    clear hsz
    unfold maxLen at hs
    go_enter Tryz.func151, Tryz.ntmps151
    go_wp2
    go_ret2
    exact ⟨by rw [HF.out]; rfl, Gr.refl _⟩
  have h1 := fun k => readShort_any s hs (by omega) (w.drewN k)
  obtain ⟨n, hn⟩ : ∃ n, n = rdS s.data.toList := ⟨_, rfl⟩
  have hnl : n < 4294967296 := by rw [hn]; exact rdS_lt _
  rw [← hn] at h1
  have H1 := Lib.hid h1
  have hs2 : s.size ≤ 9223372036854775807 := by unfold maxLen at hs; omega
  have i4 : (4 : Int) ≤ (s.size : Int) := by omega
  have hrz : (s.extract 4 s.size).size = s.size - 4 := by rw [ByteArray.size_extract]; omega
  by_cases hbig : 65536 < n
  · have HF := Lib.hid (show fieldF s.data.toList = none from by unfold fieldF; rw [if_neg (by omega), ← hn, if_pos (Or.inl hbig)])
    clear h1 hn hsz hs
    go_enter Tryz.func151, Tryz.ntmps151
    go_wp2_with fail
    go_quiet (with_reducible exact Calls.quiet_of (H1.out _))
    go_wp2
    go_ret2
    exact ⟨by rw [HF.out]; rfl, (Gr.refl _).drewN _⟩
  by_cases hfit : s.size < 4 + n
  · have HF := Lib.hid (show fieldF s.data.toList = none from by unfold fieldF; rw [if_neg (by omega), ← hn, if_pos (Or.inr (by omega))])
    clear h1 hn hsz hs
    go_enter Tryz.func151, Tryz.ntmps151
    go_wp2_with fail
    go_quiet (with_reducible exact Calls.quiet_of (H1.out _))
    go_wp2
    go_ret2
    exact ⟨by rw [HF.out]; rfl, (Gr.refl _).drewN _⟩
  have hb : ((s.extract 4 s.size).extract 0 n).data.toList = (s.data.toList.drop 4).take n := by
    rw [Lib.extract_data, extract_drop, List.drop_zero, Nat.sub_zero]
  have HF := Lib.hid (show ffVal (fieldF s.data.toList) = .tuple #[.string ((s.extract 4 s.size).extract 0 n), .bool true] from by
    have : fieldF s.data.toList = some ((s.data.toList.drop 4).take n) := by unfold fieldF; rw [if_neg (by omega), ← hn, if_neg (by omega)]
    rw [this, ← hb]; unfold ffVal; simp only []; rw [bs_data])
  have hn4 : 4 + n ≤ s.size := by omega
  have hn6 : n ≤ 65536 := by omega
  clear h1 hn hsz hs hb
  go_enter Tryz.func151, Tryz.ntmps151
  go_wp2_with fail
  go_quiet (with_reducible exact Calls.quiet_of (H1.out _))
  go_wp2
  go_ret2
  exact ⟨by rw [HF.out]; rfl, (Gr.refl _).drewN _⟩

/-- Behind some fields. -/
def UnpackRel (cnt : Nat) (l : List UInt8) (w : World) (k : Nat) (rest : List UInt8) (v : Value) (wr : World) : Prop :=
  ∃ F : List (List UInt8), F.length = k ∧ wr.ownsRow w.heap.size 9 1 v (F.map bs).length ((F.map bs).map Value.string) ∧ Gr w wr ∧
    unpackN cnt l = (unpackN (cnt - k) rest).map fun p => (F ++ p.1, p.2)
theorem rel_none {cnt k : Nat} {l rest : List UInt8} {F : List (List UInt8)} (hk : k < cnt) (h : unpackN cnt l = (unpackN (cnt - k) rest).map fun p => (F ++ p.1, p.2)) (hf : fieldF rest = none) : unpackN cnt l = none := by
  rw [h, show cnt - k = (cnt - (k + 1)) + 1 from by omega, unpackN_none hf]; rfl
theorem rel_some {cnt k : Nat} {l rest f : List UInt8} {F : List (List UInt8)} (hk : k < cnt) (h : unpackN cnt l = (unpackN (cnt - k) rest).map fun p => (F ++ p.1, p.2)) (hf : fieldF rest = some f) :
    unpackN cnt l = (unpackN (cnt - (k + 1)) (rest.drop (4 + f.length))).map fun p => ((F ++ [f]) ++ p.1, p.2) := by
  rw [h, show cnt - k = (cnt - (k + 1)) + 1 from by omega, unpackN_some hf, Option.map_map]
  congr 1
  funext p
  simp
theorem rel_end {cnt k : Nat} {l rest : List UInt8} {F : List (List UInt8)} (hk : k = cnt) (h : unpackN cnt l = (unpackN (cnt - k) rest).map fun p => (F ++ p.1, p.2)) : unpackN cnt l = some (F, rest) := by
  rw [h, hk, Nat.sub_self]; simp [unpackN]
end Go.Proofs.YtlnhbndghnkfmaaGreatDoor
