/- Walks: Encode; a transaction's bytes. -/
import Derived.Test.YteagmdnpajalgaaTxI
import Derived.Test.YteagmdnpajalgaaPack
namespace Go.Proofs.Yteagmdnpajalgaa
open Go.RowKit

theorem one8_size (z : Nat) : (one8 z).size = 1 := rfl
theorem tot_opsF : ∀ {l : List TO} {m : Int}, (∀ o ∈ l, okOp o m) → tot (l.flatMap opF) ≤ l.length * 97
  | [], _, _ => Nat.le_refl _
  | o :: r, m, h => by
    have h1 := h o (List.mem_cons_self ..)
    have hk := keyS_size h1.1
    have he := h1.2.1
    have h2 := tot_opsF (l := r) (fun d hd => h d (List.mem_cons_of_mem _ hd))
    have e : tot ((o :: r).flatMap opF) = 4 + (one8 o.kind.toNat).size + (4 + o.key.size + (4 + o.elem.size + (4 + (bs (be8 o.n.toNat)).size + tot (r.flatMap opF)))) := rfl
    rw [e, one8_size, be8_size, List.length_cons]
    omega
theorem okPack_T {t : TX} (h : okTx t) : okPack (fieldsT t) := by
  have h8 := h.2.2.1
  refine ⟨?_, ?_, ?_⟩
  · unfold fieldsT
    rw [List.length_append, opsF_len]
    have : (headF t).length = 4 := rfl
    omega
  · intro s hs
    unfold fieldsT at hs
    rcases List.mem_append.1 hs with hs | hs
    · unfold headF at hs
      simp only [List.mem_cons, List.not_mem_nil, or_false] at hs
      rcases hs with rfl | rfl | rfl | rfl
      · rw [one8_size]; decide
      · rw [be8_size]; decide
      · rw [be8_size]; decide
      · rw [bs_size, nums8_len]; decide
    · obtain ⟨o, ho, hs⟩ := List.mem_flatMap.1 hs
      have h1 := h.2.2.2 o ho
      have hk := keyS_size h1.1
      have he := h1.2.1
      unfold opF at hs
      simp only [List.mem_cons, List.not_mem_nil, or_false] at hs
      rcases hs with rfl | rfl | rfl | rfl
      · rw [one8_size]; decide
      · omega
      · omega
      · rw [be8_size]; decide
  · unfold fieldsT
    rw [tot_append]
    have h1 := tot_opsF h.2.2.2
    have e : tot (headF t) = 4 + (one8 t.origin.toNat).size + (4 + (bs (be8 t.seq)).size + (4 + (bs (be8 t.stamp)).size + (4 + (bs (nums8 t.deps 8)).size + 0))) := rfl
    rw [e, one8_size, be8_size, be8_size, bs_size, nums8_len]
    omega
/-- A transaction's bytes. -/
def txB (t : TX) : ByteArray := bs (packL (fieldsT t))
/-- What Encode answers. -/
def encVal (t : TX) : Value := if okTx t then .tuple #[.string (txB t), .int .i64 0] else .tuple #[.string ⟨#[]⟩, .int .i64 80]
theorem enc_yes {t : TX} (h : okTx t) : encVal t = .tuple #[.string (txB t), .int .i64 0] := if_pos h
theorem enc_no {t : TX} (h : ¬ okTx t) : encVal t = .tuple #[.string ⟨#[]⟩, .int .i64 80] := if_neg h
/-- What the walks ask of a transaction's parts. -/
structure NumX (t : TX) : Prop where
  seq : t.seq < 18446744073709551616
  stamp : t.stamp < 18446744073709551616
  deps : ∀ k, k < 8 → t.deps k < 18446744073709551616
  keys : ∀ o ∈ t.ops, o.key.size ≤ 9223372036854775807

set_option maxRecDepth 100000 in
set_option maxHeartbeats 1000000 in
theorem encode8_any (t : TX) (v : Value) (hx : NumX t) (w : World) (hv : TOV w v t.ops) :
    Calls Try.prog 17 #[.agg (tcs t v)] w fun e w' => e = .returned (encVal t) ∧ Gr w w' := by
  obtain ⟨W, hW, hg, hfx⟩ := xbox w t v
  have HG := Lib.hid hg
  have HC := Lib.hid (check8_any t v hx.seq hx.keys W (hv.gr hg))
  obtain ⟨q0, q1, q2, q3, q4, q5, q6, q7, q8, q9, q10, q11⟩ := id hfx
  have HV := Lib.hid (hv.gr hg)
  have HFX := Lib.hid hfx
  have HX := Lib.hid hx
  obtain ⟨A, n, c, rfl⟩ : ∃ A n c, v = .slice A n c := by obtain ⟨A, c, h, _⟩ := hv; exact ⟨A, _, c, h⟩
  by_cases hok : okTx t
  · have HE := Lib.hid (enc_yes hok)
    rw [check_yes hok] at HC
    have HK := Lib.hid hok
    clear hg hfx hx hv hok
    go_enter Try.func17, Try.ntmps17
    go_upto_region 1 with (fail)
    rw [← hW]
    clear hW
    go_wp2_with fail
    refine HC.out.mono ?_
    rintro e w1 ⟨rfl, g1⟩
    have HG1 := Lib.hid g1
    obtain ⟨p0, p1, p2, p3, p4, p5, p6, p7, p8, p9, p10, p11⟩ := HFX.out.gr g1
    have HF := Lib.hid (fieldsOf_any t (.slice A n c) HX.out.seq HX.out.stamp HX.out.deps HK.out w1 (HV.out.gr g1))
    clear q0 q1 q2 q3 q4 q5 q6 q7 q8 q9 q10 q11 g1
    go_wp2_with fail
    refine HF.out.mono ?_
    rintro e w2 ⟨u, rfl, hso, g2⟩
    have HP := Lib.hid (pack_any u (fieldsT t) w2 hso.sv (fun s hs => by have := (okPack_T HK.out).2.1 s hs; unfold maxLen; omega))
    rw [packVal_yes (okPack_T HK.out)] at HP
    have HG2 := Lib.hid (HG1.out.trans g2)
    obtain ⟨A5, c5, rfl, -, -⟩ := own_form hso
    clear hso g2 p0 p1 p2 p3 p4 p5 p6 p7 p8 p9 p10 p11
    go_wp2_with fail
    refine HP.out.mono ?_
    rintro e w3 ⟨rfl, g3⟩
    go_wp2_with fail
    go_ret2
    exact ⟨by rw [HE.out]; rfl, HG.out.trans (HG2.out.trans g3)⟩
  · have HE := Lib.hid (enc_no hok)
    rw [check_no hok] at HC
    clear hg hfx hx hv hok
    go_enter Try.func17, Try.ntmps17
    go_upto_region 1 with (fail)
    rw [← hW]
    clear hW
    go_wp2_with fail
    refine HC.out.mono ?_
    rintro e w1 ⟨rfl, g1⟩
    go_wp2_with fail
    go_ret2
    exact ⟨by rw [HE.out]; rfl, HG.out.trans g1⟩
end Go.Proofs.Yteagmdnpajalgaa
