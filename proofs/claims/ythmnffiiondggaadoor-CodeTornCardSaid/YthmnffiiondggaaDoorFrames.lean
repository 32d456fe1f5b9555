/- Walks: the laws' frames of all strings that have one. -/
import Derived.Test.YthmnffiiondggaaDoorCodeG
import Derived.Test.YthmnffiiondggaaDoorSame
import Derived.Test.YthmnffiiondggaaDoorOpen
namespace Go.Proofs.YthmnffiiondggaaDoor
open Go.RowKit

def okS (s : ByteArray) : Bool := decide (s.size ≤ 65536)
def framed (L : List ByteArray) : List ByteArray := L.filter okS
def joinB (L : List ByteArray) : ByteArray := (framed L).foldl (fun a s => a ++ frameB s) ⟨#[]⟩
theorem frameB_size (s : ByteArray) : (frameB s).size = 8 + s.size := by
  unfold frameB; rw [append_size, append_size, be4_size, be4_size]
theorem framed_snoc (L : List ByteArray) (s : ByteArray) : framed (L ++ [s]) = if okS s then framed L ++ [s] else framed L := by
  unfold framed; rw [List.filter_append]
  cases h : okS s <;> simp [h]
theorem joinB_snoc (L : List ByteArray) (s : ByteArray) : joinB (L ++ [s]) = if okS s then joinB L ++ frameB s else joinB L := by
  unfold joinB; rw [framed_snoc]
  cases h : okS s <;> simp
theorem foldl_size (L : List ByteArray) : ∀ a : ByteArray, (L.foldl (fun a s => a ++ frameB s) a).size ≤ a.size + 8 * sizes L := by
  induction L with
  | nil => intro a; simp [sizes]
  | cons x L ih =>
    intro a
    have := ih (a ++ frameB x)
    rw [append_size, frameB_size] at this
    simp only [List.foldl_cons, sizes]
    omega
theorem sizes_filter (L : List ByteArray) (p : ByteArray → Bool) : sizes (L.filter p) ≤ sizes L := by
  induction L with
  | nil => exact Nat.le_refl _
  | cons x L ih =>
    rw [List.filter_cons]
    split <;> simp only [sizes] <;> omega
theorem joinB_size (L : List ByteArray) : (joinB L).size ≤ 8 * sizes L := by
  have h1 := foldl_size (framed L) ⟨#[]⟩
  have h2 := sizes_filter L okS
  unfold joinB
  unfold framed at h1 ⊢
  have : (⟨#[]⟩ : ByteArray).size = 0 := rfl
  omega

theorem framed_len (L : List ByteArray) : (framed L).length ≤ L.length := List.length_filter_le _ _
theorem foldl_size2 (L : List ByteArray) (h : ∀ s ∈ L, s.size ≤ 65536) : ∀ a : ByteArray, (L.foldl (fun a s => a ++ frameB s) a).size ≤ a.size + 65544 * L.length := by
  induction L with
  | nil => intro a; simp
  | cons x L ih =>
    intro a
    have h1 := h x (by simp)
    have := ih (fun s hs => h s (by simp [hs])) (a ++ frameB x)
    rw [append_size, frameB_size] at this
    simp only [List.foldl_cons, List.length_cons]
    omega
theorem joinB_size2 (L : List ByteArray) : (joinB L).size ≤ 65544 * L.length := by
  have h1 := foldl_size2 (framed L) (fun s hs => of_decide_eq_true (List.mem_filter.1 hs).2) ⟨#[]⟩
  have h2 := framed_len L
  have : (⟨#[]⟩ : ByteArray).size = 0 := rfl
  unfold joinB
  omega

def FramesRel (L : List ByteArray) (w : World) (out had i : Value) (wr : World) : Prop :=
  ∃ k : Nat, k ≤ L.length ∧ i = .int .i64 k ∧ out = .string (joinB (L.take k)) ∧ wr.ownsRow w.heap.size 9 1 had (framed (L.take k)).length ((framed (L.take k)).map Value.string) ∧ Gr w wr
def RetFrames (L : List ByteArray) (w : World) (e : Ending) (w' : World) : Prop :=
  ∃ v, e = .returned (.tuple #[.string (joinB L), v]) ∧ w'.ownsRow w.heap.size 9 1 v (framed L).length ((framed L).map Value.string) ∧ Gr w w'
theorem take_snocS (L : List ByteArray) (k : Nat) (h : k < L.length) : L.take (k + 1) = L.take k ++ [L[k]] := by
  rw [List.take_succ_eq_append_getElem h]

set_option maxRecDepth 100000 in
set_option maxHeartbeats 1000000 in
theorem frames_any (v : Value) (L : List ByteArray) (hL : (L.length + 2) * 16 ≤ 140737488355328) (w : World) (hv : SV w v L) (hH : Halves w) :
    Calls Tryd.prog 32 #[v] w fun e w' => RetFrames L w e w' := by
  obtain ⟨i0, hi, hz0, hz1, hz2⟩ := info_parts infoString
  have HI := Lib.hid (And.intro hi (And.intro hz0 (And.intro hz1 hz2)))
  clear hi hz0 hz1 hz2
  obtain ⟨A, c, rfl, l1, l2, l3⟩ := hv
  have hlen : L.length ≤ 8796093022206 := by omega
  have HA := Lib.hid l3
  clear l3
  obtain ⟨n, hn⟩ : ∃ n, n = L.length := ⟨_, rfl⟩
  rw [← hn] at l1 hlen hL ⊢
  have HN := Lib.hid hn
  clear hn
  have l2 := l2.1
  unfold maxLen at l2
  have hH2 := Lib.hid hH
  clear hH
  go_enter Tryd.func32, Tryd.ntmps32
  go_wp2_with fail
  go_loopw [4, 5, 6] (fun out had i wr => FramesRel L w out had i wr) (fun _ _ i _ => n - (intOf i).toNat)
  case atStart => exact ⟨0, Nat.zero_le _, rfl, rfl, World.ownsRow_nil _ _ _ _, Gr.refl _⟩
  case round =>
    obtain ⟨k, hk, rfl, rfl, hown, hgr⟩ := hrel
    rw [← HN.out] at hk
    by_cases hlt : k < n
    · have hkL : k < L.length := by rw [← HN.out]; exact hlt
      obtain ⟨b, off, rfl, hca⟩ := HA.out k hkL
      have hca := hgr.cell hca
      have hsn := take_snocS L k hkL
      have hjs := joinB_size2 (L.take k)
      have hts : (L.take k).length ≤ k := List.length_take_le _ _
      obtain ⟨x, hx⟩ : ∃ x, x = L[k] := ⟨_, rfl⟩
      rw [← hx] at hca hsn
      obtain ⟨J, hJ⟩ : ∃ J, J = joinB (L.take k) := ⟨_, rfl⟩
      obtain ⟨m, hm⟩ : ∃ m, m = (framed (L.take k)).length := ⟨_, rfl⟩
      obtain ⟨xs, hxs⟩ : ∃ xs, xs = (framed (L.take k)).map Value.string := ⟨_, rfl⟩
      rw [← hJ] at hjs ⊢
      rw [← hm, ← hxs] at hown
      have hml : m ≤ n := by
        rw [hm]
        have h1 := List.length_filter_le okS (L.take k)
        have h2 := List.length_take_le k L
        unfold framed
        omega
      have hjs2 : J.size ≤ 65544 * 8796093022206 := by omega
      clear hjs hts
      have HO := Lib.hid hown
      have HX := Lib.hid hxs
      have HM := Lib.hid hm
      have HJ := Lib.hid hJ
      have HSN := Lib.hid hsn
      clear hown hxs hm hJ hsn hx
      by_cases hok : x.size ≤ 65536
      · have hb : okS x = true := decide_eq_true hok
        have H1 := Lib.hid (frame_yes x hok wr (hH2.out.gr hgr))
        have hfs := frameB_size x
        obtain ⟨F, hF⟩ : ∃ F, F = frameB x := ⟨_, rfl⟩
        rw [← hF] at H1 hfs
        have HFR := Lib.hid (show framed (L.take (k + 1)) = framed (L.take k) ++ [x] from by rw [HSN.out, framed_snoc, if_pos hb])
        have HJN := Lib.hid (show joinB (L.take (k + 1)) = J ++ F from by rw [HSN.out, joinB_snoc, if_pos hb, ← HJ.out, ← hF])
        clear hb hF
        go_wp2_with fail
        refine H1.out.mono ?_
        rintro e w1 ⟨rfl, g1⟩
        have hca1 := g1.cell hca
        clear hca
        have hO := own_gr HO.out g1
        have hB2 : w.heap.size ≤ w1.heap.size := by have := hgr.size; have := g1.size; omega
        have hgr2 : Below w.heap.size w w1 := hgr.trans g1
        go_wp2_with (at_builtin; refine wpList_append_own _ rfl (.tmp 28) (.tmp 33) 29 rfl w.heap.size 9 i0 (.string ⟨#[]⟩) 1 16 Tryd.underlying29 HI.out.1 HI.out.2.1 HI.out.2.2.1 HI.out.2.2.2 rfl (by decide) _ _ _ rfl (hO.alloc _) ⟨w1.heap.size, 0, none⟩ 1 1 [.string x] rfl rfl ?c1 ?c2 ?c3 ?c4 ?c5 ?_)
        case c1 => exact cell_one_new _ _ _
        case c2 => simp [Value.oneCell']
        case c3 => unfold maxLen; omega
        case c4 => omega
        case c5 => simp; omega
        intro v' w3 hown3 hgrow _
        have hgr3 : Below w.heap.size w w3 := gr_of_grown (hgr2.alloc hB2 _) (hO.alloc _) hgrow (by simp; omega)
        have HO3 := Lib.hid hown3
        clear hown3 hgrow hO hgr2
        go_wp2
        go_roundw
        case rel => exact ⟨k + 1, by rw [← HN.out]; omega, by go_num, by rw [HJN.out], by rw [HFR.out, List.length_append, List.map_append, ← HX.out, ← HM.out]; exact HO3.out, hgr3⟩
        case measure => simp [intOf]; omega
      · have hb : okS x = false := decide_eq_false hok
        have H1 := Lib.hid (frame_no x (by omega) wr)
        have HFR := Lib.hid (show framed (L.take (k + 1)) = framed (L.take k) from by rw [HSN.out, framed_snoc, if_neg (by rw [hb]; decide)])
        have HJN := Lib.hid (show joinB (L.take (k + 1)) = J from by rw [HSN.out, joinB_snoc, if_neg (by rw [hb]; decide), ← HJ.out])
        clear hb
        go_wp2_with fail
        refine H1.out.mono ?_
        rintro e w1 ⟨rfl, rfl⟩
        go_wp2
        go_roundw
        case rel => exact ⟨k + 1, by rw [← HN.out]; omega, by go_num, by rw [HJN.out], by rw [HFR.out, ← HX.out, ← HM.out]; exact HO.out, hgr⟩
        case measure => simp [intOf]; omega
    · have hall : L.take k = L := List.take_of_length_le (by rw [← HN.out]; omega)
      rw [hall] at hown ⊢
      have HO := Lib.hid hown
      clear hown hall
      go_wp2
      go_ret2
      exact ⟨_, rfl, HO.out, hgr⟩
end Go.Proofs.YthmnffiiondggaaDoor
