/- The library's Builder beside a row of strings of the call's own: what writes to the one leaves the other. -/
import Derived.Test.YtnihnkcmmnlaaaaDoorLibD
import Derived.Test.YtnihnkcmmnlaaaaDoorPush
import Derived.Test.YtnihnkcmmnlaaaaDoorCodeB
import Derived.Shelf.Strings.BuilderK
namespace Go.Proofs.YtnihnkcmmnlaaaaDoor
open Go.Shelf Go.RowKit

/-- The builder in block b holds these bytes. -/
def Bld (B b : Nat) (l : List UInt8) (w : World) : Prop := Lib.IsBuilderF 46 5 B b (Lib.byteCells l) w
theorem Bld.at_ {B b : Nat} {l : List UInt8} {w : World} (h : Bld B b l w) : ∃ p, (p = .pointer none ∨ p = .pointer (some ⟨b, 0, none⟩)) ∧ Lib.BuilderAtF 46 5 B b p (Lib.byteCells l) w := by
  rcases h with h | h
  · exact ⟨_, .inl rfl, h⟩
  · exact ⟨_, .inr rfl, h⟩
theorem Bld.of {B b : Nat} {l : List UInt8} {w : World} {p : Value} (hp : p = .pointer none ∨ p = .pointer (some ⟨b, 0, none⟩)) (h : Lib.BuilderAtF 46 5 B b p (Lib.byteCells l) w) : Bld B b l w := by
  rcases hp with rfl | rfl
  · exact .inl h
  · exact .inr h
theorem Bld.heap {B b : Nat} {l : List UInt8} {w : World} (h : Bld B b l w) : B ≤ b ∧ ∃ cs fz, w.heap[b]? = some (.cells cs 46 fz) := by
  obtain ⟨p, _, hB, v, hb, _⟩ := h.at_
  exact ⟨hB, _, _, hb⟩
/-- What leaves all blocks that were there but those of strings leaves a builder. -/
theorem Bld.kept {B b : Nat} {l : List UInt8} {w w' : World} {row : Option Nat} (h : Bld B b l w) (hg : w.grownBy w' row) (hr : ∀ g, row = some g → ∃ c fz, w.heap[g]? = some (.cells c 9 fz)) : Bld B b l w' := by
  obtain ⟨p, hp, hB, v, hb, hown, hne⟩ := h.at_
  have hbl : b < w.heap.size := (Array.getElem?_eq_some_iff.1 hb).1
  refine Bld.of hp ⟨hB, v, ?_, ?_, hne⟩
  · rw [hg.block b hbl ?_]
    · exact hb
    · intro e
      obtain ⟨c, fz, hc⟩ := hr b e.symm
      rw [hb] at hc
      injection hc with hc
      injection hc with _ hc
      revert hc
      decide
  · refine World.ownsRowF.kept hown hg ?_
    rcases hv : v.ownBlock with _ | g
    · exact .inl rfl
    · refine .inr (fun e => ?_)
      obtain ⟨c, fz, hc⟩ := hr g e.symm
      obtain ⟨c', fz', hc'⟩ := Lib.ownsRowF_kind hown g hv
      rw [hc] at hc'
      injection hc' with hc'
      injection hc' with _ hc'
      revert hc'
      decide
theorem Bld.gr {B b : Nat} {l : List UInt8} {w w' : World} (h : Bld B b l w) (g : Gr w w') : Bld B b l w' :=
  h.kept (row := none) ⟨g.os, g.tape, g.output, g.size, fun k hk _ => g.block k hk⟩ (fun g e => by cases e)
theorem SO.kind {w : World} {B : Nat} {v : Value} {L : List ByteArray} (h : SO w B v L) : ∀ g, v.ownBlock = some g → ∃ c fz, w.heap[g]? = some (.cells c 9 fz) := by
  intro g hg
  exact Lib.ownsRowF_kind (World.ownsRowF_of h) g hg
theorem Bld.new (w : World) : Bld w.heap.size w.heap.size [] (w.alloc (.cells #[.pointer none, .slice none 0 0] 46)) := Lib.IsBuilderF.of (Lib.fresh_isBuilder _ _ w)
theorem SO.others {w w' : World} {B b : Nat} {v : Value} {L : List ByteArray} (h : SO w B v L) (hb : ∃ cs fz, w.heap[b]? = some (.cells cs 46 fz)) (hk : Lib.OthersKept 5 (some b) w w') : SO w' B v L := by
  obtain ⟨h0, h1⟩ := h
  refine ⟨h0, ?_⟩
  rcases h1 with h1 | ⟨g, cap, cur, hv, hB, hg, h2⟩
  · exact .inl h1
  · refine .inr ⟨g, cap, cur, hv, hB, hk g _ hg ?_ ?_, h2⟩
    · intro e
      injection e with e
      subst e
      obtain ⟨cs, fz, hc⟩ := hb
      rw [hg] at hc
      injection hc with hc
      injection hc with _ hc
      revert hc
      decide
    · intro c fz hc
      injection hc with _ hc
      revert hc
      decide
theorem byteCells_str (s : ByteArray) : Lib.strCells s = Lib.byteCells s.data.toList := rfl
theorem bld_write (B b : Nat) (l : List UInt8) (s : ByteArray) (w : World) (h : Bld B b l w) (hlen : l.length + s.size ≤ 140737488355328) (hB : B ≤ w.heap.size) :
    Calls Tryd.prog 24 #[.pointer (some ⟨b, 0, none⟩), .string s] w fun e w' => e = .returned (.tuple #[.int .i64 s.size, .nilIface]) ∧ Bld B b (l ++ s.data.toList) w' ∧ Below B w w' ∧ Lib.OthersKept 5 (some b) w w' := by
  refine (Any.Builder_WriteString_k lays166 extra166 B b (Lib.byteCells l) s w h (by unfold Lib.byteCells; rw [List.length_map]; exact hlen) hB).mono ?_
  rintro e w' ⟨rfl, h1, h2, h3⟩
  refine ⟨rfl, .inr ?_, h2, h3⟩
  rw [Lib.byteCells_append, ← byteCells_str]
  exact h1
theorem bld_len (B b : Nat) (l : List UInt8) (w : World) (h : Bld B b l w) :
    Calls Tryd.prog 23 #[.pointer (some ⟨b, 0, none⟩)] w fun e w' => e = .returned (.int .i64 l.length) ∧ w' = w := by
  refine (Any.Builder_Len_f lays170 B b (Lib.byteCells l) w h).mono ?_
  rintro e w' ⟨rfl, rfl⟩
  exact ⟨by unfold Lib.byteCells; rw [List.length_map], rfl⟩
theorem bld_string (B b : Nat) (l : List UInt8) (w : World) (h : Bld B b l w) (hB : B ≤ w.heap.size) :
    Calls Tryd.prog 25 #[.pointer (some ⟨b, 0, none⟩)] w fun e w' => e = .returned (.string (bs l)) ∧ Below B w w' := by
  refine (Any.Builder_String_any_k lays169 extra169 B b l w h hB).mono ?_
  rintro e w' ⟨rfl, _, h2, _⟩
  exact ⟨rfl, h2⟩
section
variable {ops : Array Oper} {o : Oper} {a : Act} {W w0 : World} {K : Act → World → Prop} {Q : Exit → Act → World → Prop} {E : Prop}
/-- append of strings beside a builder. -/
theorem step_push_bld (hgd : o.guard = none) (s x : Operand)
    (ho : o.op = .call { callee := .builtin .append, args := #[s, x], argTypes := #[47, 47] })
    (v vx : Value) (L M : List ByteArray) (n m : Nat) (hn : n = L.length) (hm : m = M.length) (hs : a.eval s = v) (hown : SO W w0.heap.size v L) (hx : a.eval x = vx) (hxv : SV W vx M) (hlen : (n + m) * 16 ≤ 140737488355328) (hg : Gr w0 W)
    (B b : Nat) (l : List UInt8) (hb : Bld B b l W)
    (h : ∀ A' c' w', SO w' w0.heap.size (.slice A' (n + m) c') (L ++ M) → Gr w0 w' → Bld B b l w' → W.heap.size ≤ w'.heap.size → K (a.put o.dst (.slice A' (n + m) c')) w') :
    if Region.wanted o (yielded ops a.tmps) = true then Oper.wp Tryd.prog o a W K Q else E := by
  subst hn hm
  obtain ⟨i0, hi, hz0, hz1, hz2⟩ := info_parts infoString
  have hsz := hg.size
  refine step_append_sl W hgd s x 47 ho w0.heap.size 9 i0 _ 1 16 Tryd.underlying47 hi hz0 hz1 hz2 rfl (by decide) v L.length (L.map Value.string) hs hown vx M.length (M.map Value.string) hx
    hxv.sl (strs_one M) (by unfold maxLen; omega) hlen hsz (L.length + M.length) rfl ?_
  intro A' c' w' hown' hgr _
  refine h A' c' w' ?_ (gr_of_grown hg hown hgr hsz) (hb.kept hgr hown.kind) hgr.size
  unfold SO
  rw [List.length_append, List.map_append]
  exact hown'
end
end Go.Proofs.YtnihnkcmmnlaaaaDoor
