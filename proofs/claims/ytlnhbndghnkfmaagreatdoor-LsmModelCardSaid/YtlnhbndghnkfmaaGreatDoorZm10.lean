/- Reading a table's blocks: rows of pairs beside rows of strings, the invariants; walk: inBlocks. Walk: inBlocks. The library's binary search, by the shelf's contract; the place of a key in rising pairs. -/
import Derived.Test.YtlnhbndghnkfmaaGreatDoorZm09
import Derived.Test.YtlnhbndghnkfmaaGreatDoorZm06
import Derived.Test.YtlnhbndghnkfmaaGreatDoorZm07
import Derived.Test.YtlnhbndghnkfmaaGreatDoorZm01
import Derived.Shelf.SlSorted.Search
namespace Go.Proofs.YtlnhbndghnkfmaaGreatDoor
open Go.RowKit

theorem SO.grown {w w' : World} {B : Nat} {v : Value} {L : List ByteArray} {row : Option Nat} (h : SO w B v L) (hg : w.grownBy w' row) (hr : ∀ g, row = some g → ∃ c fz, w.heap[g]? = some (.cells c 66 fz)) : SO w' B v L := by
  obtain ⟨h0, h1⟩ := h
  refine ⟨h0, ?_⟩
  rcases h1 with h1 | ⟨g, cap, cur, hv, hB, hh, h2⟩
  · exact .inl h1
  · refine .inr ⟨g, cap, cur, hv, hB, ?_, h2⟩
    rw [hg.block g (Array.getElem?_eq_some_iff.1 hh).1 ?_]
    · exact hh
    · intro e
      obtain ⟨c, fz, hc⟩ := hr g e.symm
      rw [hh] at hc
      injection hc with hc
      injection hc with _ hc
      revert hc
      decide
theorem PO.kind {w : World} {B : Nat} {v : Value} {L : List PR} (h : PO w B v L) : ∀ g, v.ownBlock = some g → ∃ c fz, w.heap[g]? = some (.cells c 66 fz) := by
  intro g hg
  rcases h.2 with ⟨rfl, _⟩ | ⟨g', cap, cur, rfl, _, hgg, _⟩
  · simp [Value.ownBlock] at hg
  · simp [Value.ownBlock] at hg
    subst hg
    exact ⟨cur, _, hgg⟩
theorem pv_one (w : World) (x y : ByteArray) (b : Nat) (hb : b = w.heap.size) : PV (w.alloc (.cells #[.string x, .string y] 66)) (.slice (some ⟨b, 0, none⟩) 1 1) [⟨x, y⟩] := by
  subst hb
  refine ⟨_, 1, rfl, Nat.le_refl _, ⟨by decide, fun h => by cases h⟩, fun j hj => ⟨w.heap.size, 0, rfl, ?_⟩⟩
  obtain rfl : j = 0 := by simpa using hj
  exact ⟨by rw [World.cell?_alloc_mark]; rfl, by rw [World.cell?_alloc_mark]; rfl⟩
section
variable {ops : Array Oper} {o : Oper} {a : Act} {W w0 : World} {K : Act → World → Prop} {Q : Exit → Act → World → Prop} {E : Prop}
theorem step_push_pairs (hgd : o.guard = none) (s x : Operand)
    (ho : o.op = .call { callee := .builtin .append, args := #[s, x], argTypes := #[48, 48] })
    (v vx : Value) (L M : List PR) (n m : Nat) (hn : n = L.length) (hm : m = M.length) (hs : a.eval s = v) (hown : PO W w0.heap.size v L) (hx : a.eval x = vx) (hxv : PV W vx M) (hlen : (n + m) * 32 ≤ 140737488355328) (hg : Gr w0 W)
    (h : ∀ A' c' w', PO w' w0.heap.size (.slice A' (n + m) c') (L ++ M) → Gr w0 w' → (∀ B u F, SO W B u F → SO w' B u F) → K (a.put o.dst (.slice A' (n + m) c')) w') :
    if Region.wanted o (yielded ops a.tmps) = true then Oper.wp Tryz.prog o a W K Q else E := by
  subst hn hm
  obtain ⟨i0, hi, hz0, hz1, hz2⟩ := info_parts infoPair
  have hsz := hg.size
  refine step_append_sl W hgd s x 48 ho w0.heap.size 66 i0 _ 2 32 Tryz.underlying48 hi hz0 hz1 hz2 rfl (by decide) v L.length (pcells L) hs hown vx M.length (pcells M) hx
    hxv.sl (pcells_one M) (by unfold maxLen; omega) hlen hsz (L.length + M.length) rfl ?_
  intro A' c' w' hown' hgr _
  refine h A' c' w' ?_ (gr_of_grown hg hown hgr hsz) (fun B u F hs => hs.grown hgr hown.kind)
  unfold PO
  rw [List.length_append]
  unfold pcells at hown' ⊢
  rw [List.flatMap_append]
  exact hown'
end

/-- Behind k bodies. -/
structure InInv (H : List (List UInt8)) (k : Nat) (acc : List PR) : Prop where
  all : readAll H = (readAll (H.drop k)).map (acc ++ ·)
  small : ∀ p ∈ acc, p.key.size ≤ 65536 ∧ p.val.size ≤ 65536
  len : acc.length ≤ k * 2048
theorem InInv.start (H : List (List UInt8)) : InInv H 0 [] := ⟨by simp, fun p h => by (cases h), Nat.zero_le _⟩
theorem InInv.bad {H : List (List UInt8)} {k : Nat} {acc : List PR} (h : InInv H k acc) (hk : k < H.length) (hb : bodyPairs H[k] = none) : readAll H = none := by
  rw [h.all, List.drop_eq_getElem_cons hk, readAll_none hb]
  rfl
theorem InInv.fin {H : List (List UInt8)} {k : Nat} {acc : List PR} (h : InInv H k acc) (hk : k = H.length) : readAll H = some acc := by
  rw [h.all, hk, List.drop_length]
  simp [readAll]
theorem bytes_mem {H : List (List UInt8)} {b : List UInt8} (h : b ∈ H) : b.length ≤ bytesOf H := by
  induction H with
  | nil => cases h
  | cons x H ih =>
    simp only [bytesOf]
    rcases List.mem_cons.1 h with rfl | h
    · omega
    · have := ih h
      omega
theorem fields_small {b : List UInt8} {fs : List (List UInt8)} (h : unpackL b = some fs) : fs.length ≤ 4096 ∧ ∀ s ∈ fs.map bs, s.size ≤ 65536 := by
  have := (unpack_back h).1
  exact ⟨by have := this.1; rwa [List.length_map] at this, this.2.1⟩
theorem pairUp_small : ∀ (F : List ByteArray) (n : Nat), (∀ s ∈ F, s.size ≤ n) → ∀ p ∈ pairUp F, p.key.size ≤ n ∧ p.val.size ≤ n
  | [], n, _, p, hp => by cases hp
  | [_], n, _, p, hp => by cases hp
  | k :: v :: r, n, h, p, hp => by
    rcases List.mem_cons.1 hp with rfl | hp
    · exact ⟨h _ (by simp), h _ (by simp)⟩
    · exact pairUp_small r n (fun s hs => h s (by simp [hs])) p hp
theorem InInv.step {H : List (List UInt8)} {k : Nat} {acc : List PR} (h : InInv H k acc) (hk : k < H.length) {fs : List (List UInt8)} (hu : unpackL H[k] = some fs) (he : fs.length % 2 = 0) : InInv H (k + 1) (acc ++ pairUp (fs.map bs)) := by
  obtain ⟨h1, h2⟩ := fields_small hu
  have hl : (pairUp (fs.map bs)).length ≤ 2048 := by rw [pairUp_len _ (by rw [List.length_map]; exact he), List.length_map]; omega
  refine ⟨?_, ?_, ?_⟩
  · rw [h.all, List.drop_eq_getElem_cons hk, readAll_some (bodyPairs_some hu he), Option.map_map]
    congr 1
    funext x
    simp
  · intro p hp
    rcases List.mem_append.1 hp with hp | hp
    · exact h.small p hp
    · exact pairUp_small _ _ h2 p hp
  · rw [List.length_append]
    have := h.len
    omega
theorem pairUp_take : ∀ (t j : Nat) (F : List ByteArray) (_ : j = 2 * t) (h : j + 1 < F.length), pairUp (F.take (j + 2)) = pairUp (F.take j) ++ [⟨F[j], F[j + 1]⟩]
  | 0, _, k :: v :: r, rfl, _ => by simp [pairUp]
  | t + 1, j, k :: v :: r, hj, h => by
    obtain ⟨i, rfl⟩ : ∃ i, j = i + 2 := ⟨j - 2, by omega⟩
    have := pairUp_take t i r (by omega) (by simp only [List.length_cons] at h; omega)
    show _ :: pairUp (r.take (i + 2)) = _ :: pairUp (r.take i) ++ _
    rw [this]
    rfl
theorem pairUp_take_len (t : Nat) (F : List ByteArray) (h : 2 * t ≤ F.length) : (pairUp (F.take (2 * t))).length = t := by
  rw [pairUp_len _ (by rw [List.length_take]; omega), List.length_take]; omega

/-- What inBlocks answers. -/
def RetIn (o : Option (List PR)) (w : World) (e : Ending) (w' : World) : Prop :=
  match o with
  | none => e = .returned (.tuple #[.slice none 0 0, .bool false]) ∧ Gr w w'
  | some L => ∃ v, e = .returned (.tuple #[v, .bool true]) ∧ PO w' w.heap.size v L ∧ (∀ p ∈ L, p.key.size ≤ 65536 ∧ p.val.size ≤ 65536) ∧ L.length ≤ 1000000000 ∧ Gr w w'
def PIRel (H : List (List UInt8)) (B1 : Nat) (vh : Value) (F : List ByteArray) (w : World) (vp i : Value) (wr : World) : Prop :=
  ∃ (k : Nat) (acc : List PR), i = .int .i64 (k : Int) ∧ k ≤ H.length ∧ InInv H k acc ∧ PO wr w.heap.size vp acc ∧ SO wr B1 vh F ∧ Gr w wr
def PJRel (acc : List PR) (B1 : Nat) (vh : Value) (H : List ByteArray) (B2 : Nat) (vf : Value) (F : List ByteArray) (w : World) (vp i : Value) (wr : World) : Prop :=
  ∃ t : Nat, i = .int .i64 ((2 * t : Nat) : Int) ∧ 2 * t ≤ F.length ∧ PO wr w.heap.size vp (acc ++ pairUp (F.take (2 * t))) ∧ SO wr B1 vh H ∧ SO wr B2 vf F ∧ Gr w wr
abbrev QF (g a j : Nat) (x y : ByteArray) (w0 w' : World) : Prop := w'.cell? ⟨g, a + j, none⟩ = some (.string x) ∧ w'.cell? ⟨g, a + (j + 1), none⟩ = some (.string y) ∧ Gr w0 w'
theorem QF.gr {g a j : Nat} {x y : ByteArray} {w0 w1 w2 : World} (h : QF g a j x y w0 w1) (q : Gr w1 w2) : QF g a j x y w0 w2 := ⟨q.cell h.1, q.cell h.2.1, h.2.2.trans q⟩
theorem elemStr : Tryz.prog.underlying 28 = some (.slice (Tryz.prog.elem 28)) ∧ Tryz.prog.elem 28 = 9 := ⟨by kernel_rfl, by kernel_rfl⟩
theorem sizeStr : ∀ W : World, (sizeOf 9).run Tryz.prog W = .ok 1 W := fun W => by kernel_rfl
theorem slice_strs_to (n c k : Nat) (hk : k ≤ c) (A : Option Addr) : ∀ W : World, (Instr.slice 28 (.slice A n c) none (some (.int .i64 (k : Int))) none).run Tryz.prog W = .ok (.slice A k c) W := by
  intro W
  rw [run_slice_h W _ A n c elemStr.1 .i64 (k : Int) (by omega) (by omega), elemStr.2, sizeStr]
  show Result.ok (sliced A 0 (k : Int).toNat c 1) W = _
  unfold sliced
  rw [Int.toNat_natCast]
  cases A with
  | none => simp
  | some a => simp [Addr.add]
theorem SV.cell {w : World} {A : Option Addr} {n c : Nat} {L : List ByteArray} (h : SV w (.slice A n c) L) : ∀ j (hj : j < L.length), ∃ b off, A = some ⟨b, off, none⟩ ∧ w.cell? ⟨b, off + j, none⟩ = some (.string L[j]) := by
  obtain ⟨A', c', hv, _, _, h3⟩ := h
  injection hv with e1 _ _
  subst e1
  exact h3
theorem qf_of {w0 w' : World} {B g a n c j : Nat} {F : List ByteArray} {x y : ByteArray} (h : SO w' B (.slice (some ⟨g, a, none⟩) n c) F) (hj : j + 1 < F.length) (hx : x = F[j]) (hy : y = F[j + 1]) (q : Gr w0 w') : QF g a j x y w0 w' := by
  obtain ⟨b, off, e, h1⟩ := h.sv.cell j (by omega)
  injection e with e
  injection e with e1 e2 _
  subst e1 e2
  obtain ⟨b', off', e', h2⟩ := h.sv.cell (j + 1) hj
  injection e' with e'
  injection e' with e1 e2 _
  subst e1 e2
  subst hx hy
  exact ⟨h1, h2, q⟩
end Go.Proofs.YtlnhbndghnkfmaaGreatDoor
namespace Go.Proofs.YtlnhbndghnkfmaaGreatDoor
open Go.RowKit

set_option maxRecDepth 100000 in
set_option maxHeartbeats 4000000 in
theorem inBlocks_any (s : ByteArray) (hs : s.size ≤ maxLen) (w : World) (hH : Halves w) :
    Calls Tryz.prog 128 #[.string s] w fun e w' => RetIn (inB s.data.toList) w e w' := by
  have hz := Lib.size_eq s
  have hm63 : s.size ≤ 9223372036854775807 := hs
  by_cases h8 : s.size < 8
  · have HF : Hid (inB s.data.toList = none) := Lib.hid (by unfold inB; rw [if_pos (by omega)])
    rw [HF.out]
    have t1 : (s.size : Int) < 8 := by omega
    clear hz hs
    go_enter Tryz.func128, Tryz.ntmps128
    go_wp2
    go_ret2
    exact ⟨rfl, Gr.refl _⟩
  by_cases hbig : 1048576 < s.size
  · have HF : Hid (inB s.data.toList = none) := Lib.hid (by unfold inB; rw [if_pos (by omega)])
    rw [HF.out]
    have t1 : ¬ (s.size : Int) < 8 := by omega
    have t2 : (1048576 : Int) < (s.size : Int) := by omega
    clear hz hs
    go_enter Tryz.func128, Tryz.ntmps128
    go_wp2
    go_ret2
    exact ⟨rfl, Gr.refl _⟩
  have t1 : ¬ (s.size : Int) < 8 := by omega
  have t2 : ¬ (1048576 : Int) < (s.size : Int) := by omega
  have hdat : (s.extract 0 (s.size - 8)).data.toList = s.data.toList.take (s.data.toList.length - 8) := by
    rw [Lib.extract_data, List.drop_zero, Nat.sub_zero, hz]
  have hez : (s.extract 0 (s.size - 8)).size = s.size - 8 := by rw [ByteArray.size_extract]; omega
  obtain ⟨H, hHe⟩ : ∃ H, H = scanAll (s.data.toList.take (s.data.toList.length - 8)) := ⟨_, rfl⟩
  have hcb := count_bytes H
  have hbl : bytesOf H ≤ s.size := by
    rw [hHe]
    refine Nat.le_trans (bytesOf_scan _ _ (Nat.le_refl _)) ?_
    rw [List.length_take]
    omega
  have hSc := fun w1 (g : Gr w w1) => scan_any (s.extract 0 (s.size - 8)) (by omega) (by rw [hdat, ← hHe]; omega) w1 (hH.gr g)
  rw [hdat, ← hHe] at hSc
  have HSC := Lib.hid hSc
  have HI : Hid (inB s.data.toList = if H.length = 0 then none else readAll H.dropLast) := Lib.hid (by
    unfold inB
    rw [if_neg (by omega), ← hHe])
  have hlen : H.length ≤ 131072 := by omega
  have HBZ : Hid (∀ b ∈ H, b.length ≤ 1048576) := Lib.hid (fun b hb => by
    have := bytes_mem hb
    omega)
  have t5 : ((s.size - 8 : Nat) : Int) = (s.size : Int) - 8 := by omega
  have ht8 : ((s.size : Int) - 8).toNat = s.size - 8 := by omega
  have t6 : IntKind.i64.wrap ((s.size : Int) - 8) = (s.size : Int) - 8 := IntWalk.i64_in _ (by omega)
  have t7 : (0 : Int) ≤ (s.size : Int) - 8 := by omega
  have t9 : (s.size : Int) - 8 ≤ (s.size : Int) := by omega
  have hb6 : s.size ≤ 1048576 := by omega
  clear hdat hez hcb hbl hSc hz hs hH t5 hbig h8 hHe
  go_enter Tryz.func128, Tryz.ntmps128
  go_wp2_with fail
  refine (HSC.out _ (Gr.refl _)).mono ?_
  rintro e w1 ⟨v1, rfl, hown1, g1⟩
  have HO1 : Hid (SO w1 w.heap.size v1 (H.map bs)) := Lib.hid hown1
  have HG1 := Lib.hid g1
  obtain ⟨A1, c1, rfl, hc1, hc2⟩ := own_form hown1
  obtain ⟨nb, hnb⟩ : ∃ n, n = H.length := ⟨_, rfl⟩
  rw [List.length_map, ← hnb] at hc1 HO1
  rw [List.length_map, ← hnb]
  rw [← hnb] at HI hlen
  have HNB := Lib.hid hnb
  obtain ⟨by_, hby⟩ : ∃ n, n = bytesOf H := ⟨_, rfl⟩
  rw [← hby]
  clear hown1 g1 t6 t7 t9 ht8 t1 t2 hby hnb HSC
  by_cases hn0 : nb = 0
  · have HF : Hid (inB s.data.toList = none) := Lib.hid (by rw [HI.out, if_pos hn0])
    have t1 : (nb : Int) = 0 := by omega
    have t2 : ((nb : Int) == 0) = true := by simp [t1]
    clear hn0
    go_wp2_with fail
    go_ret2
    rw [HF.out]
    exact ⟨rfl, HG1.out⟩
  · have HF : Hid (inB s.data.toList = readAll H.dropLast) := Lib.hid (by rw [HI.out, if_neg hn0])
    have t2 : ((nb : Int) == 0) = false := by simp; omega
    obtain ⟨D, hD⟩ : ∃ D, D = H.dropLast := ⟨_, rfl⟩
    rw [← hD] at HF
    obtain ⟨m, hm⟩ : ∃ m, m = nb - 1 := ⟨_, rfl⟩
    have hmD : m = D.length := by rw [hD, List.length_dropLast, ← HNB.out, hm]
    have HM := Lib.hid hmD
    have hsl := slice_strs_to nb c1 m (by omega) A1
    have hw1 : IntKind.i64.wrap ((nb : Int) - 1) = (m : Int) := by
      rw [show (m : Int) = (nb : Int) - 1 from by omega]
      exact IntWalk.i64_in _ (by omega)
    have HDM : Hid (∀ b ∈ D, b ∈ H) := Lib.hid (fun b hb => by
      subst hD
      exact List.dropLast_subset H hb)
    have HDJ : Hid (∀ j (hj : j < D.length) (hj2 : j < (H.map bs).length), (H.map bs)[j] = bs D[j]) := Lib.hid (fun j hj hj2 => by
      subst hD
      rw [List.getElem_map, List.getElem_dropLast])
    have hmnb : m < nb := by omega
    clear hmD hD hm hn0
    go_wp2_with fail
    go_loopw [6, 38] (fun vp i wr => PIRel D w.heap.size (.slice A1 nb c1) (H.map bs) w vp i wr) (fun _ i _ => m - (intOf i).toNat)
    case atStart => exact ⟨0, [], rfl, Nat.zero_le _, InInv.start D, PO.nil _ _, HO1.out, HG1.out⟩
    case round =>
      obtain ⟨k, acc, rfl, hk, hinv, hpo, hso, hgr⟩ := hrel
      rw [← HM.out] at hk
      have HINV := Lib.hid hinv
      have HPO := Lib.hid hpo
      have HSO := Lib.hid hso
      have HGR := Lib.hid hgr
      have hal := hinv.len
      obtain ⟨Ap, cp, rfl, hp1, -⟩ := own_form hpo
      obtain ⟨na, hna⟩ : ∃ n, n = acc.length := ⟨_, rfl⟩
      rw [← hna] at HPO hal ⊢
      have HNA := Lib.hid hna
      clear hinv hpo hso hgr hna hp1 hsl hw1 t2
      by_cases hlt : k < m
      · have hkD : k < D.length := by rw [← HM.out]; exact hlt
        have hkH : k < (H.map bs).length := by rw [List.length_map, ← HNB.out]; omega
        obtain ⟨b, off, rfl, hc⟩ := HSO.out.sv.cell k hkH
        rw [HDJ.out k hkD hkH] at hc
        obtain ⟨bk, hbk⟩ : ∃ x, x = bs D[k] := ⟨_, rfl⟩
        have hbd : bk.data.toList = D[k] := by rw [hbk]; rfl
        have hbz : bk.size ≤ maxLen := by
          have := HBZ.out D[k] (HDM.out _ (List.getElem_mem hkD))
          rw [hbk, bs_size]
          unfold maxLen
          omega
        rw [← hbk] at hc
        have hU := fun w1 => unpack_any bk hbz w1
        rw [hbd] at hU
        have hm0 : (0 : Int) ≤ (k : Int) := by omega
        rcases hun : unpackL D[k] with _ | fs
        · have HE := Lib.hid (HF.out.trans (HINV.out.bad hkD (bodyPairs_none hun)))
          rw [hun] at hU
          have HU := Lib.hid hU
          clear hU hun hbd hbk hbz
          go_wp2_with fail
          refine (HU.out _).mono ?_
          rintro e w2 ⟨rfl, g2⟩
          have HG2 := Lib.hid (HGR.out.trans g2)
          clear g2
          go_wp2_with fail
          go_ret2
          rw [HE.out]
          exact ⟨rfl, HG2.out⟩
        · rw [hun] at hU
          have HU := Lib.hid hU
          have hfs := fields_small hun
          obtain ⟨nf, hnf⟩ : ∃ n, n = fs.length := ⟨_, rfl⟩
          have hn4 : nf ≤ 4096 := by rw [hnf]; exact hfs.1
          by_cases hodd : nf % 2 = 0
          · have HST := Lib.hid (HINV.out.step hkD hun (by rw [← hnf]; exact hodd))
            have hrem : ((nf : Int).tmod 2) = 0 := by
              rw [Int.tmod_eq_emod_of_nonneg (by omega)]; omega
            have HNF : Hid (nf = (fs.map bs).length) := Lib.hid (by rw [List.length_map]; exact hnf)
            obtain ⟨F, hF⟩ : ∃ F, F = fs.map bs := ⟨_, rfl⟩
            have hUF : Hid (∀ w1, Calls Tryz.prog 118 #[.string bk] w1 fun e w' => ∃ v, e = .returned (.tuple #[v, .int .i64 0]) ∧ SO w' w1.heap.size v F ∧ Gr w1 w') := Lib.hid (fun w1 => by rw [hF]; exact HU.out w1)
            rw [← hF] at HST HNF
            have HEV := Lib.hid hodd
            clear hU hun hbd hbk hbz hodd hfs hnf hF HU
            obtain ⟨wo, rfl⟩ : ∃ x, x = wr := ⟨_, rfl⟩
            go_wp2_with fail
            refine (hUF.out _).mono ?_
            rintro e w2 ⟨v2, rfl, ho2, g2⟩
            have HG2 := Lib.hid (HGR.out.trans g2)
            obtain ⟨A2, c2, rfl, h2a, h2b⟩ := own_form ho2
            have HO2 := Lib.hid ho2
            rw [← HNF.out] at h2a HO2
            rw [← HNF.out]
            have HPO2 := Lib.hid (HPO.out.gr g2)
            have HSO2 := Lib.hid (HSO.out.gr g2)
            clear g2 ho2
            go_wp2_with fail
            go_loopw [6, 11] (fun vp i wr => PJRel acc w.heap.size (.slice (some ⟨b, off, none⟩) nb c1) (H.map bs) wo.heap.size (.slice A2 nf c2) F w vp i wr) (fun _ i _ => nf + 1 - (intOf i).toNat)
            case atStart => exact ⟨0, rfl, Nat.zero_le _, by show PO w2 _ _ (acc ++ []); rw [List.append_nil]; exact HPO2.out, HSO2.out, HO2.out, HG2.out⟩
            case round =>
              obtain ⟨t, rfl, ht, hpo, hso, hfo, hgr⟩ := hrel
              rw [← HNF.out] at ht
              have HP3 := Lib.hid hpo
              have HS3 := Lib.hid hso
              have HF3 := Lib.hid hfo
              have HG3 := Lib.hid hgr
              have hpl : (acc ++ pairUp (F.take (2 * t))).length = na + t := by rw [List.length_append, pairUp_take_len t F (by rw [← HNF.out]; exact ht), ← HNA.out]
              obtain ⟨A3, c3, hf3, -, -⟩ := own_form hpo
              rw [hpl] at hf3
              subst hf3
              have HPL := Lib.hid hpl
              obtain ⟨p, hp⟩ : ∃ p, p = 2 * t := ⟨_, rfl⟩
              rw [← hp] at ht HP3 HPL ⊢
              have HPE := Lib.hid hp
              clear hpo hso hfo hgr hpl hrem hp
              by_cases hpl2 : p < nf
              · have hp1 : p + 1 < nf := by have := HEV.out; have := HPE.out; omega
                have hpF : p + 1 < F.length := by rw [← HNF.out]; exact hp1
                obtain ⟨g, a, rfl, -⟩ := HF3.out.sv.cell p (by omega)
                obtain ⟨x, hx⟩ : ∃ x, x = F[p] := ⟨_, rfl⟩
                obtain ⟨y, hy⟩ : ∃ y, y = F[p + 1] := ⟨_, rfl⟩
                have HMK := Lib.hid (fun (w5 : World) (ho : SO w5 wo.heap.size (.slice (some ⟨g, a, none⟩) nf c2) F) (q : Gr w w5) => qf_of ho hpF hx hy q)
                have HS : Hid (QF g a p x y w wr) := Lib.hid (HMK.out _ HF3.out HG3.out)
                have HK := Lib.hid (pairUp_take t p F HPE.out hpF)
                rw [← hx, ← hy] at HK
                have c0 := HS.out.1
                have c1' := HS.out.2.1
                have t0 : (0 : Int) ≤ (p : Int) := by omega
                have t1 : (p : Int) < (nf : Int) := by omega
                have t3 : IntKind.i64.wrap ((p : Int) + 1) = (p : Int) + 1 := IntWalk.i64_in _ (by omega)
                have t4 : (0 : Int) ≤ (p : Int) + 1 := by omega
                have t5 : ((p : Int) + 1).toNat = p + 1 := by omega
                have t6 : (p : Int) + 1 < (nf : Int) := by omega
                have hsz : (na + t + 1) * 32 ≤ 140737488355328 := by have := HPE.out; omega
                clear hx hy hpF
                go_wp2_with fail
                go_region_held3 (fun w' => QF g a p x y w w')
                  (first
                    | (with_reducible exact HS.out)
                    | (with_reducible exact QF.gr HS.out (Gr.refl _).drew)
                    | (with_reducible exact QF.gr (QF.gr HS.out (Gr.refl _).drew) (gr_box _ _))
                    | (with_reducible assumption))
                  (first
                    | (refine step_push_pairs (w0 := w) rfl (.tmp 61) (.tmp 72) rfl (.slice A3 (na + t) c3) _ _ [⟨x, y⟩] (na + t) 1 HPL.out.symm rfl rfl ((HP3.out.gr (Gr.refl _).drew).gr (gr_box _ _)) rfl (pv_one _ x y _ rfl) hsz ((HG3.out.drew).alloc _) ?_; intro A5 c5 w5 hown5 g5 hk5; have hF5 := hk5 _ _ _ ((HF3.out.gr (Gr.refl _).drew).gr (gr_box _ _)); have hS5 := hk5 _ _ _ ((HS3.out.gr (Gr.refl _).drew).gr (gr_box _ _)); have hQ5 := HMK.out _ hF5 g5))
                have HP5 : Hid (PO w5 w.heap.size (.slice A5 (na + t + 1) c5) (acc ++ pairUp (F.take (p + 2)))) := Lib.hid (by rw [HK.out, ← List.append_assoc]; exact hown5)
                have HG5 := Lib.hid g5
                have HF5 := Lib.hid hF5
                have HS5 := Lib.hid hS5
                clear hQ5 hF5 hS5 hk5 hown5 g5 c0 c1' t0 t1 t3 t4 t5 t6 hsz
                go_wp2
                go_roundw
                case rel => exact ⟨t + 1, by rw [show 2 * (t + 1) = 2 * t + 2 from by omega, ← HPE.out]; go_num, by rw [show 2 * (t + 1) = 2 * t + 2 from by omega, ← HPE.out, ← HNF.out]; omega, by rw [show 2 * (t + 1) = 2 * t + 2 from by omega, ← HPE.out]; exact HP5.out, HS5.out, HF5.out, HG5.out⟩
                case measure => simp [intOf]; omega
              · have hpe : p = F.length := by rw [← HNF.out]; omega
                have HP6 := HP3.out
                rw [hpe, List.take_length] at HP6
                have HP7 := Lib.hid HP6
                clear HP6 hpe
                go_wp2
                go_roundw
                case rel => exact ⟨k + 1, _, by go_num, by rw [← HM.out]; omega, HST.out, HP7.out, HS3.out, HG3.out⟩
                case measure => simp [intOf]; omega
          · have HE := Lib.hid (HF.out.trans (HINV.out.bad hkD (bodyPairs_odd hun (by rw [← hnf]; exact hodd))))
            have hrem : ((nf : Int).tmod 2) = 1 := by
              rw [Int.tmod_eq_emod_of_nonneg (by omega)]; omega
            have HNF := Lib.hid hnf
            clear hU hun hbd hbk hbz hodd hfs
            go_wp2_with fail
            refine (HU.out _).mono ?_
            rintro e w2 ⟨v2, rfl, ho2, g2⟩
            have HG2 := Lib.hid (HGR.out.trans g2)
            obtain ⟨A2, c2, rfl, -, -⟩ := own_form ho2
            rw [List.length_map, ← HNF.out]
            clear g2 ho2 hnf
            go_wp2_with fail
            go_ret2
            rw [HE.out]
            exact ⟨rfl, HG2.out⟩
      · have hke : k = D.length := by rw [← HM.out]; omega
        have HE := Lib.hid (HF.out.trans (HINV.out.fin hke))
        clear hke
        go_wp2_with fail
        go_ret2
        rw [HE.out]
        exact ⟨_, rfl, HPO.out, HINV.out.small, by rw [← HNA.out]; omega, HGR.out⟩
end Go.Proofs.YtlnhbndghnkfmaaGreatDoor
namespace Go.Proofs.YtlnhbndghnkfmaaGreatDoor
open Go.Shelf Go.RowKit Go.Lib Go.Sort
def laysSr_ren : Go.Shelf.Ren := ⟨fun | 16 => 130 | n => n, fun | 3 => 3 | 4 => 4 | 35 => 161 | 38 => 152 | n => n, fun | n => n⟩
theorem laysSr : Go.Proofs.SlLaysO.n16 Tryz.prog laysSr_ren := {
  mixed := by kernel_rfl
  f16 := Tryz.func130.trans (congrArg some (by kernel_rfl))
  t3 := Tryz.underlying3
  a3 := Tryz.isAgg3
  z3 := Tryz.sizeOf3
  v3 := Tryz.zeroValue3
  t4 := Tryz.underlying4
  a4 := Tryz.isAgg4
  z4 := Tryz.sizeOf4
  v4 := Tryz.zeroValue4
  t35 := Tryz.underlying161
  a35 := Tryz.isAgg161
  z35 := Tryz.sizeOf161
  v35 := Tryz.zeroValue161
  t38 := Tryz.underlying152
  a38 := Tryz.isAgg152
  z38 := Tryz.sizeOf152
  v38 := Tryz.zeroValue152 }
theorem gr_grow (w : World) (q : Nat) (os : Array Obj) : Gr w (grow (w.drewN q) os) := below_grown_sl w.heap.size w q os (Nat.le_refl _)

/-- How many pairs have keys below this one. -/
def placeN (L : List PR) (key : ByteArray) : Nat := L.countP fun p => lessS p.key key
theorem placeN_le (L : List PR) (key : ByteArray) : placeN L key ≤ L.length := List.countP_le_length
theorem count_keys (L : List PR) (key : ByteArray) : (List.range L.length).countP (fun i => !(!lessS (keyAt L i) key)) = placeN L key := by
  have h : L.map (·.key) = (List.range L.length).map (keyAt L) := by
    apply List.ext_getElem
    · simp
    · intro i h1 h2
      simp only [List.getElem_map, List.getElem_range]
      rw [key_at (by simpa using h1)]
  have e1 : placeN L key = (L.map (·.key)).countP (fun k => lessS k key) := by unfold placeN; rw [List.countP_map]; rfl
  rw [e1, h, List.countP_map]
  congr 1
  funext i
  simp
theorem rises_lt {L : List PR} (h : rises L) : ∀ (d i : Nat) (hj : i + d + 1 < L.length), lessS L[i].key L[i + d + 1].key = true
  | 0, i, hj => h i hj
  | d + 1, i, hj => lessS_trans (rises_lt h d i (by omega)) (h (i + d + 1) hj)
theorem rises_at {L : List PR} (h : rises L) {i j : Nat} (hij : i < j) (hj : j < L.length) : lessS (L[i]'(by omega)).key L[j].key = true := by
  obtain ⟨d, rfl⟩ : ∃ d, j = i + d + 1 := ⟨j - i - 1, by omega⟩
  exact rises_lt h d i hj
/-- A key that is below a later pair's is below all that lie on. -/
theorem below_mono {L : List PR} (h : rises L) {key : ByteArray} {i j : Nat} (hij : i ≤ j) (hj : j < L.length) (hl : lessS L[j].key key = true) : lessS (L[i]'(by omega)).key key = true := by
  rcases Nat.lt_or_ge i j with e | e
  · exact lessS_trans (rises_at h e hj) hl
  · obtain rfl : i = j := by omega
    exact hl

set_option maxRecDepth 100000 in
theorem place1_any (i n c : Nat) (L : List PR) (A : Option Addr) (key : ByteArray) (b1 b2 : Nat) (w : World) (hn : n = L.length) (hi : i < n) (c1 : w.cell? ⟨b1, 0, none⟩ = some (.slice A n c)) (c2 : w.cell? ⟨b2, 0, none⟩ = some (.string key)) (hv : PV w (.slice A n c) L) :
    Calls Tryz.prog 131 #[.int .i64 (i : Int), .pointer (some ⟨b1, 0, none⟩), .pointer (some ⟨b2, 0, none⟩)] w fun e w' => e = .returned (.bool (!lessS (keyAt L i) key)) ∧ ∃ q, w' = w.drewN q := by
  obtain ⟨A', c', hvv, l1, ⟨l2, _⟩, l3⟩ := hv
  injection hvv with e1 e2 e3
  subst e1 e3
  have hc63 : c ≤ 9223372036854775807 := l2
  obtain ⟨b, off, rfl, q0, -⟩ := l3 i (by omega)
  rw [key_at (by omega)]
  obtain ⟨x, hx⟩ : ∃ x, x = (L[i]'(by omega)).key := ⟨_, rfl⟩
  rw [← hx] at q0 ⊢
  have t0 : (0 : Int) ≤ (i : Int) := by omega
  have t1 : (i : Int) < (n : Int) := by omega
  obtain ⟨r, hr⟩ : ∃ r, r = lessS x key := ⟨_, rfl⟩
  rw [← hr]
  have ht : Go.Op.bytesLess x.toList key.toList = r := hr.symm
  clear l1 l2 l3 hx hr hn
  go_enter Tryz.func131, Tryz.ntmps131
  go_wp2_with fail
  go_quiet (fail)
  go_wp2
  go_ret
  exact ⟨rfl, _, rfl⟩
set_option maxRecDepth 100000 in
set_option maxHeartbeats 1000000 in
theorem place_any (v : Value) (L : List PR) (key : ByteArray) (w : World) (hv : PV w v L) (hr : rises L) (hl : L.length ≤ 1024) :
    Calls Tryz.prog 99 #[v, .string key] w fun e w' => e = .returned (.int .i64 (placeN L key : Int)) ∧ Gr w w' := by
  obtain ⟨A, c, rfl⟩ := pv_form hv
  obtain ⟨W0, hW0⟩ : ∃ W0, W0 = (w.alloc (.cells #[.slice A L.length c] 48)).alloc (.cells #[.string key] 9) := ⟨_, rfl⟩
  have G0 : Gr w W0 := by rw [hW0]; exact ((Gr.refl w).alloc _).alloc _
  have ca : W0.cell? ⟨w.heap.size, 0, none⟩ = some (.slice A L.length c) := by rw [hW0]; exact cell_alloc_sl _ (cell_new_sl w _ _)
  have cx : W0.cell? ⟨w.heap.size + 1, 0, none⟩ = some (.string key) := by rw [hW0]; have := cell_new_sl (w.alloc (.cells #[.slice A L.length c] 48)) (.string key) 9; rwa [World.size_alloc] at this
  have hS := Any.sort_Search (P := Tryz.prog) (ρ := laysSr_ren) laysSr 131 #[.pointer (some ⟨w.heap.size, 0, none⟩), .pointer (some ⟨w.heap.size + 1, 0, none⟩)] L.length (fun i => !lessS (keyAt L i) key) W0
    (enters_of (Tryz.func131) (by kernel_rfl) rfl) (by omega)
    (fun m os i hi => (place1_any i L.length c L A key w.heap.size (w.heap.size + 1) _ rfl hi ((gr_grow W0 m os).cell ca) ((gr_grow W0 m os).cell cx) (hv.gr (G0.trans (gr_grow W0 m os)))).mono
      fun _ _ ⟨he, q, hq⟩ => ⟨he, q, #[], by rw [hq, grow_empty]⟩)
    (fun a b hab hb h => by
      rw [key_at (by omega), Bool.not_eq_true'] at h
      show (!lessS (keyAt L b) key) = true
      rw [key_at hb, Bool.not_eq_true']
      rw [Bool.eq_false_iff]
      intro hlt
      rw [below_mono hr hab hb hlt] at h
      cases h)
  rw [count_keys] at hS
  have HS := Lib.hid hS
  have HG := Lib.hid G0
  clear ca cx hS G0 hv
  obtain ⟨n, hn⟩ : ∃ n, n = L.length := ⟨_, rfl⟩
  rw [← hn] at HS hW0 hl ⊢
  have HW := Lib.hid hW0
  clear hn hW0
  go_enter Tryz.func99, Tryz.ntmps99
  go_wp2_with fail
  rw [← HW.out]
  refine HS.out.mono ?_
  rintro e w' ⟨rfl, q, os, rfl⟩
  go_wp2_with fail
  go_ret
  exact ⟨rfl, HG.out.trans (gr_grow W0 q os)⟩
end Go.Proofs.YtlnhbndghnkfmaaGreatDoor
