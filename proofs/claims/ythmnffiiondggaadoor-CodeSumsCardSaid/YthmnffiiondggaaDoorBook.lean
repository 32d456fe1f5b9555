/- Walks: the Book, its table made once. -/
import Derived.Test.YthmnffiiondggaaDoorSync
import Derived.Test.YthmnffiiondggaaDoorCodeD
namespace Go.Proofs.YthmnffiiondggaaDoor
open Go.RowKit

/-- The cells of a Book: its flag, its lock, how often the table was made, the table so far. -/
def bookF (d m c : Int) (k : Nat) : Nat → Value := fun i =>
  if i = 0 then .int .u32 d else if i = 1 then .int .i32 m else if i = 2 then .int .u32 0 else if i = 3 then .int .i64 c
  else if i < 4 + k then .int .u32 (Crc.turned (i - 4) : Nat) else .int .u32 0
def IsBook (w : World) (b : Nat) (d m c : Int) (k : Nat) : Prop := w.rowIs b 55 260 (bookF d m c k)
/-- Block b alone has changed, and what is new. -/
def Ob (b : Nat) (w w' : World) : Prop := w.grownBy w' (some b)
theorem Ob.refl (b : Nat) (w : World) : Ob b w w := ⟨rfl, rfl, rfl, Nat.le_refl _, fun _ _ _ => rfl⟩
theorem Ob.trans {b : Nat} {w1 w2 w3 : World} (h : Ob b w1 w2) (k : Ob b w2 w3) : Ob b w1 w3 :=
  ⟨k.os.trans h.os, k.tape.trans h.tape, k.output.trans h.output, Nat.le_trans h.size k.size, fun i hi hne => (k.block i (Nat.lt_of_lt_of_le hi h.size) hne).trans (h.block i hi hne)⟩
theorem Ob.drew {b : Nat} {w w' : World} (h : Ob b w w') : Ob b w w'.drew := ⟨h.os, h.tape, h.output, h.size, h.block⟩
theorem Ob.drewN {b : Nat} {w w' : World} (h : Ob b w w') (n : Nat) : Ob b w (w'.drewN n) := ⟨h.os, h.tape, h.output, h.size, h.block⟩
theorem Ob.setCell {b : Nat} {w w' : World} (h : Ob b w w') (o : Nat) (u : Value) : Ob b w (w'.setCell ⟨b, o, none⟩ u) :=
  h.trans ⟨rfl, rfl, rfl, by simp [World.setCell], fun i _ hne => Below.heap_setCell w' _ u i (fun e => hne (by rw [e]))⟩
theorem Ob.gr {b : Nat} {w w' : World} (h : Gr w w') : Ob b w w' := ⟨h.os, h.tape, h.output, h.size, fun i hi _ => h.block i hi⟩
theorem Ob.cell {b : Nat} {w w' : World} (h : Ob b w w') {p : Addr} {v : Value} (hp : w.cell? p = some v) (hb : p.block ≠ b) : w'.cell? p = some v := by
  by_cases hl : p.block < w.heap.size
  · rw [World.cell?_of_block (w := w) (w' := w') (h.block p.block hl (fun e => hb (by injection e)))]
    exact hp
  · have hn : w.heap[p.block]? = none := by simp; omega
    unfold World.cell? at hp
    rw [hn] at hp
    simp at hp
theorem Halves.ob {w w' : World} {b : Nat} (h : Halves w) (o : Ob b w w') (hb : b ≠ 0) : Halves w' := fun k hk => o.cell (h k hk) (fun e => hb e.symm)
theorem IsBook.gr {w w' : World} {b : Nat} {d m c : Int} {k : Nat} (h : IsBook w b d m c k) (g : Gr w w') : IsBook w' b d m c k := by
  unfold IsBook at h ⊢
  exact World.rowIs.of_block h (g.block b (World.rowIs.lt h))

theorem made_any (b : Nat) (d m c : Int) (k : Nat) (w : World) (h : IsBook w b d m c k) :
    Calls Tryd.prog 24 #[.pointer (some ⟨b, 0, none⟩)] w fun e w' => e = .returned (.int .i64 c) ∧ w = w' := by
  have h3 : w.cell? ⟨b, 3, none⟩ = some (.int .i64 c) := h.cell (i := 3) (by decide)
  have hl := run_call_load (P := Tryd.prog) Tryd.func51 (by kernel_rfl) (by kernel_rfl) (by kernel_rfl) .i64 (by kernel_rfl) h3
  clear h
  go_enter Tryd.func24, Tryd.ntmps24
  go_wp2
  go_ret
  exact ⟨rfl, rfl⟩

def FillRel (b : Nat) (w : World) (i : Value) (wr : World) : Prop :=
  ∃ k : Nat, k ≤ 256 ∧ i = .int .i64 k ∧ IsBook wr b 0 1 0 k ∧ Ob b w wr
theorem book_step {w : World} {b k : Nat} (h : IsBook w b 0 1 0 k) : IsBook (w.setCell ⟨b, 4 + k, none⟩ (.int .u32 (Crc.turned k : Nat))) b 0 1 0 (k + 1) := by
  refine (World.rowIs.set h (4 + k) _).congr fun i hi => ?_
  unfold bookF
  by_cases h0 : i = 0
  · rw [if_neg (by omega), if_pos h0, if_pos h0]
  by_cases h1 : i = 1
  · rw [if_neg (by omega), if_neg h0, if_pos h1, if_neg h0, if_pos h1]
  by_cases h2 : i = 2
  · rw [if_neg (by omega), if_neg h0, if_neg h1, if_pos h2, if_neg h0, if_neg h1, if_pos h2]
  by_cases h3 : i = 3
  · rw [if_neg (by omega), if_neg h0, if_neg h1, if_neg h2, if_pos h3, if_neg h0, if_neg h1, if_neg h2, if_pos h3]
  rw [if_neg h0, if_neg h1, if_neg h2, if_neg h3, if_neg h0, if_neg h1, if_neg h2, if_neg h3]
  by_cases he : i = 4 + k
  · rw [if_pos he, if_pos (by omega), he, Nat.add_sub_cancel_left]
  · rw [if_neg he]
    by_cases hl : i < 4 + k
    · rw [if_pos hl, if_pos (by omega)]
    · rw [if_neg hl, if_neg (by omega)]

set_option maxRecDepth 100000 in
set_option maxHeartbeats 1000000 in
theorem fill_any (b : Nat) (w : World) (h : IsBook w b 0 1 0 0) (hH : Halves w) (hb : b ≠ 0) :
    Calls Tryd.prog 45 #[.pointer (some ⟨b, 0, none⟩)] w fun e w' => e = .returned (.tuple #[]) ∧ IsBook w' b 0 1 1 256 ∧ Ob b w w' := by
  have HB := Lib.hid h
  have HH := Lib.hid hH
  clear h hH
  go_enter Tryd.func45, Tryd.ntmps45
  go_wp2_with fail
  go_loopw [3] (fun i wr => FillRel b w i wr) (fun i _ => 256 - (intOf i).toNat)
  case atStart => exact ⟨0, by omega, rfl, HB.out, Ob.refl _ _⟩
  case round =>
    obtain ⟨k, hk, rfl, hbk, hob⟩ := hrel
    by_cases hlt : k < 256
    · have hc : wr.cell? ⟨b, 4 + k, none⟩ = some (bookF 0 1 0 k (4 + k)) := hbk.cell (by omega)
      have hf : wr.frozen? ⟨b, 4 + k, none⟩ = false := hbk.frozen _
      obtain ⟨x, hx⟩ : ∃ x, x = bookF 0 1 0 k (4 + k) := ⟨_, rfl⟩
      rw [← hx] at hc
      have hst := book_step hbk
      have HT := Lib.hid (fun (w2 : World) (g : Gr wr w2) => turned_any k (by omega) w2 ((HH.out.ob hob hb).gr g))
      have HS := Lib.hid hst
      have hwk : IntKind.u32.wrap (k : Int) = (k : Int) := IntWalk.u32_in _ (by omega)
      clear hx hst hbk
      go_wp2_with fail
      go_region_with ((go_at_call 52; refine (HT.out _ ((Gr.refl _).drew)).mono ?_; rintro e w2 ⟨rfl, rfl⟩))
      go_wp2
      go_roundw
      case rel => exact ⟨k + 1, by omega, by go_num, World.rowIs.drew HS.out, (hob.setCell _ _).drew⟩
      case measure => simp [intOf]; omega
    · obtain rfl : k = 256 := by omega
      have h3 : wr.cell? ⟨b, 3, none⟩ = some (.int .i64 0) := World.rowIs.cell hbk (i := 3) (by decide)
      have f3 : wr.frozen? ⟨b, 3, none⟩ = false := World.rowIs.frozen hbk 3
      have hadd := run_call_add (P := Tryd.prog) Tryd.func62 (by kernel_rfl) (by kernel_rfl) (by kernel_rfl) .i64 (by kernel_rfl) (y := 1) (s := 1) h3 f3 (by simp [go_sem]; rfl)
      have hend : IsBook (wr.setCell ⟨b, 3, none⟩ (.int .i64 1)) b 0 1 1 256 := by
        refine (World.rowIs.set hbk 3 _).congr fun i hi => ?_
        unfold bookF
        by_cases h3 : i = 3
        · subst h3; rfl
        · rw [if_neg h3]
          by_cases h0 : i = 0
          · rw [if_pos h0, if_pos h0]
          by_cases h1 : i = 1
          · rw [if_neg h0, if_pos h1, if_neg h0, if_pos h1]
          by_cases h2 : i = 2
          · rw [if_neg h0, if_neg h1, if_pos h2, if_neg h0, if_neg h1, if_pos h2]
          rw [if_neg h0, if_neg h1, if_neg h2, if_neg h3, if_neg h0, if_neg h1, if_neg h2, if_neg h3]
      have HE := Lib.hid hend
      clear hend hbk h3 f3
      go_wp2
      go_end0
      exact ⟨rfl, HE.out, hob.setCell _ _⟩

/-- The Once's slow road, not yet done, the lock free: the table is made, the flag is set. -/
theorem bookF_set {w : World} {b : Nat} {d m c : Int} {k : Nat} (h : IsBook w b d m c k) (d' m' : Int) :
    IsBook (w.setCell ⟨b, 0, none⟩ (.int .u32 d')) b d' m c k ∧ IsBook (w.setCell ⟨b, 1, none⟩ (.int .i32 m')) b d m' c k := by
  constructor
  · refine (World.rowIs.set h 0 _).congr fun i hi => ?_
    unfold bookF
    by_cases h0 : i = 0
    · rw [if_pos h0, if_pos h0]
    · rw [if_neg h0, if_neg h0, if_neg h0]
  · refine (World.rowIs.set h 1 _).congr fun i hi => ?_
    unfold bookF
    by_cases h1 : i = 1
    · subst h1; rfl
    · rw [if_neg h1]
      by_cases h0 : i = 0
      · rw [if_pos h0, if_pos h0]
      · rw [if_neg h0, if_neg h1, if_neg h0, if_neg h1]

set_option maxRecDepth 100000 in
set_option maxHeartbeats 1600000 in
theorem slow_any (b : Nat) (w : World) (h : IsBook w b 0 0 0 0) (hH : Halves w) (hb : b ≠ 0) :
    Calls Tryd.prog 54 #[.pointer (some ⟨b, 0, none⟩), .func (.func 45) #[.pointer (some ⟨b, 0, none⟩)] #[]] w fun e w' =>
      e = .returned (.tuple #[]) ∧ IsBook w' b 1 0 1 256 ∧ Ob b w w' := by
  have c1 : w.cell? ⟨b, 1, none⟩ = some (.int .i32 0) := World.rowIs.cell h (i := 1) (by decide)
  have f1 : w.frozen? ⟨b, 1, none⟩ = false := World.rowIs.frozen h 1
  have h1 := (bookF_set h 0 1).2
  have o1 : Ob b w (w.setCell ⟨b, 1, none⟩ (.int .i32 1)) := (Ob.refl b w).setCell _ _
  obtain ⟨w1, hw1⟩ : ∃ w1, w1 = w.setCell ⟨b, 1, none⟩ (.int .i32 1) := ⟨_, rfl⟩
  have HL := Lib.hid (locked ⟨b, 1, none⟩ w c1 f1)
  rw [← hw1] at h1 o1 HL
  have c0 : w1.cell? ⟨b, 0, none⟩ = some (.int .u32 0) := World.rowIs.cell h1 (i := 0) (by decide)
  have hl := run_call_load (P := Tryd.prog) Tryd.func58 (by kernel_rfl) (by kernel_rfl) (by kernel_rfl) .u32 (by kernel_rfl) c0
  have HF := Lib.hid (fill_any b w1 h1 (hH.ob o1 hb) hb)
  clear h h1 hH c1 f1 hw1 c0
  go_enter_defers Tryd.func54, Tryd.ntmps54
  go_wp2_with (first | (go_at_call 59; refine HL.out.mono ?_; rintro e w' ⟨rfl, rfl⟩) | (go_at_call 45; refine HF.out.mono ?_; rintro e w2 ⟨rfl, hb2, o2⟩) | (go_at_call 53; go_in))
  -- the door: the flag is set, then the lock is let go
  have e0 : w2.cell? ⟨b, 0, none⟩ = some (.int .u32 0) := World.rowIs.cell hb2 (i := 0) (by decide)
  have z0 : w2.frozen? ⟨b, 0, none⟩ = false := World.rowIs.frozen hb2 0
  have hb3 := (bookF_set (w := w2.drew) (World.rowIs.drew hb2) 1 1).1
  have o3 : Ob b w (w2.drew.setCell ⟨b, 0, none⟩ (.int .u32 1)) := ((o1.trans o2).drew).setCell _ _
  have e1 : (w2.drew.setCell ⟨b, 0, none⟩ (.int .u32 1)).cell? ⟨b, 1, none⟩ = some (.int .i32 1) := World.rowIs.cell hb3 (i := 1) (by decide)
  have z1 : (w2.drew.setCell ⟨b, 0, none⟩ (.int .u32 1)).frozen? ⟨b, 1, none⟩ = false := World.rowIs.frozen hb3 1
  have hb4 := (bookF_set hb3 1 0).2
  refine leaves_cons (f := 61) (args := #[.pointer (some ⟨b, 0, none⟩), .bool true]) (by simp) (by simp [go_sem]) ?_
  refine (doneStored ⟨b, 0, none⟩ (.int .u32 0) .returning _ e0 z0).mono ?_
  rintro e u' w'' ⟨rfl, rfl, rfl⟩
  refine leaves_cons (f := 60) (args := #[.pointer (some ⟨b, 1, none⟩)]) (by simp [settle]) (by simp [go_sem]) ?_
  refine (unlocked ⟨b, 1, none⟩ _ _ e1 z1).mono ?_
  rintro e u' w'' ⟨rfl, rfl, rfl⟩
  have o4 : Ob b w ((w2.drew.setCell ⟨b, 0, none⟩ (.int .u32 1)).setCell ⟨b, 1, none⟩ (.int .i32 0)) := o3.setCell _ _
  refine ⟨.tuple #[], by simp [results, Tryd.results54], rfl, hb4, o4⟩

set_option maxRecDepth 100000 in
set_option maxHeartbeats 1600000 in
theorem do_new (b : Nat) (w : World) (h : IsBook w b 0 0 0 0) (hH : Halves w) (hb : b ≠ 0) :
    Calls Tryd.prog 44 #[.pointer (some ⟨b, 0, none⟩), .func (.func 45) #[.pointer (some ⟨b, 0, none⟩)] #[]] w fun e w' =>
      e = .returned (.tuple #[]) ∧ IsBook w' b 1 0 1 256 ∧ Ob b w w' := by
  have c0 : w.cell? ⟨b, 0, none⟩ = some (.int .u32 0) := World.rowIs.cell h (i := 0) (by decide)
  have hl := run_call_load (P := Tryd.prog) Tryd.func58 (by kernel_rfl) (by kernel_rfl) (by kernel_rfl) .u32 (by kernel_rfl) c0
  have HS := Lib.hid (slow_any b w h hH hb)
  clear h hH c0
  go_enter Tryd.func44, Tryd.ntmps44
  go_wp2_with (first | (go_at_call 54; refine HS.out.mono ?_; rintro e w2 ⟨rfl, hb2, o2⟩) | (go_at_call 53; go_in))
  go_end0
  exact ⟨rfl, hb2, o2⟩
theorem do_old (b : Nat) (c : Int) (k : Nat) (fv : Value) (w : World) (h : IsBook w b 1 0 c k) :
    Calls Tryd.prog 44 #[.pointer (some ⟨b, 0, none⟩), fv] w fun e w' => e = .returned (.tuple #[]) ∧ w = w' := by
  have c0 : w.cell? ⟨b, 0, none⟩ = some (.int .u32 1) := World.rowIs.cell h (i := 0) (by decide)
  have hl := run_call_load (P := Tryd.prog) Tryd.func58 (by kernel_rfl) (by kernel_rfl) (by kernel_rfl) .u32 (by kernel_rfl) c0
  clear h c0
  go_enter Tryd.func44, Tryd.ntmps44
  go_wp2
  go_end0
  exact ⟨rfl, rfl⟩

/-! ### the sum by the table -/
theorem byte_turn (n : Nat) (x : UInt8) : Crc.stepB n x = n / 256 ^^^ Crc.turned ((n ^^^ x.toNat) % 256) := by
  unfold Crc.stepB
  rw [Crc.turned_bits, Crc.turned_bits]
  have hs : n ^^^ x.toNat = 2 ^ 8 * ((n ^^^ x.toNat) / 256) ^^^ (n ^^^ x.toNat) % 256 := by
    obtain ⟨m, hm⟩ : ∃ m, m = n ^^^ x.toNat := ⟨_, rfl⟩
    rw [← hm]
    apply Nat.eq_of_testBit_eq
    intro i
    rw [Nat.testBit_xor, Nat.testBit_two_pow_mul, show (256 : Nat) = 2 ^ 8 from rfl, Nat.testBit_mod_two_pow, Nat.testBit_div_two_pow]
    by_cases hi : i < 8
    · have h7 : ¬ 8 ≤ i := by omega
      simp [hi, h7]
    · have : 8 ≤ i := by omega
      simp [hi, this]
  have hd : (n ^^^ x.toNat) / 256 = n / 256 := by
    have h1 := Crc.xor_div n x.toNat 8
    rw [show (2 : Nat) ^ 8 = 256 from rfl] at h1
    rw [h1, Nat.div_eq_of_lt x.toNat_lt, Nat.xor_zero]
  conv => lhs; rw [hs, Crc.bitSteps_xor, Crc.bitSteps_shift, hd]
end Go.Proofs.YthmnffiiondggaaDoor
