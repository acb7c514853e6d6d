/-
  abacuslaw26: CodeBytes.
-/
import Derived.Test.YtnobafmleellhaaDoorCdRk
import Derived.Test.YtnobafmleellhaaDoorCdRq
namespace Go.Proofs.YtnobafmleellhaaDoor
open Go Go.RowKit Go.Deep Go.Shelf

namespace Cd
theorem bad_lt {n N S : Nat} : ∀ {l : List In} {i k : Nat}, bad n N S l i = some k → k < i + l.length
  | [], _, _, h => by rw [bad] at h; cases h
  | x :: l, i, k, h => by
    rw [bad] at h
    by_cases c : rt n N S i x = true
    · rw [if_pos c] at h
      have := bad_lt h
      rw [List.length_cons]; omega
    · rw [if_neg c] at h
      cases h
      rw [List.length_cons]; omega
theorem run_lt : ∀ {l : List In} {i k : Nat} {hs : List Int}, run l i hs = .inl k → k < i + l.length
  | [], _, _, _, h => by rw [run] at h; cases h
  | x :: l, i, k, hs, h => by
    rw [run] at h
    by_cases c : hs.getD i 0 < 0
    · rw [if_pos c] at h
      have := run_lt h
      rw [List.length_cons]; omega
    · rw [if_neg c] at h
      cases e : ps x i hs with
      | none => rw [e] at h; cases h; rw [List.length_cons]; omega
      | some h1 =>
        rw [e] at h
        have := run_lt h
        rw [List.length_cons]; omega
theorem hts_pl (l : List In) (N S : Nat) : (hts l N S).2.1 ≤ l.length := by
  by_cases h : 131072 < l.length
  · rw [hts_big h]; show 131072 ≤ _; omega
  · cases hb : bad l.length N S l 0 with
    | some i =>
      rw [hts_bad h hb]
      have := bad_lt hb
      show i ≤ _; omega
    | none =>
      cases hr : run l 0 (h0 l.length) with
      | inl i =>
        rw [hts_run h hb hr]
        have := run_lt hr
        show i ≤ _; omega
      | inr hs =>
        rw [hts_end h hb hr]
        split
        · exact Nat.zero_le _
        · exact Nat.le_refl _
theorem chk_pl (l : List In) (N S : Nat) : (chk l N S).2.1 ≤ l.length := by
  unfold chk
  split
  · exact Nat.zero_le _
  · exact hts_pl l N S
theorem dec_exact {B : Ch.L8} (h : (fin B).f = none) : ∃ ops, dl B = ops.take 131073 ∧ enc ops (dn B) (dt B) = B ∧ U64 (dn B) ∧ (∀ s ∈ dt B, s.size ≤ 2147483647) ∧ ops.length ≤ B.length := by
  obtain ⟨⟨⟨d, t, o⟩, s'⟩, he⟩ : ∃ x, dcd0 B ⟨0, none⟩ = x := ⟨_, rfl⟩
  have e1 : dl B = o.take 131073 := by unfold dl; rw [he]
  have e2 : dn B = d := by unfold dn; rw [he]
  have e3 : dt B = t := by unfold dt; rw [he]
  unfold fin at h
  rw [he] at h
  simp only at h
  by_cases c : s'.a < B.length
  · rw [if_pos c] at h
    have := rf_some s' s'.a
    rw [h] at this
    cases this
  · rw [if_neg c] at h
    obtain ⟨_, h2, E, ⟨h3, h4, h5⟩, h6⟩ := exa_dcd B 0 _ s' (Nat.zero_le _) he h
    rw [List.take_zero, List.nil_append, List.take_of_length_le (by omega)] at h6
    simp only at h3 h4 h5
    rw [e2, e3]
    have hB : enc o d t = B := by rw [← h3, ← h6]
    refine ⟨o, e1, hB, h4, h5, ?_⟩
    rw [← hB]
    exact (enc_len o d t).1
theorem dec_taken {B : Ch.L8} (h : (fin B).f = none) (hc : (chk (dl B) (dn B).length (dt B).length).2.2 = 0) : enc (dl B) (dn B) (dt B) = B := by
  obtain ⟨o, e1, e2, _⟩ := dec_exact h
  have hl : (dl B).length ≤ 131072 := by
    rcases hts_err (dl B) (dn B).length (dt B).length with e | ⟨e, _⟩
    · have := (hts_ok e).1; omega
    · rw [chk_no e] at hc
      exact absurd hc (by show ¬ (260 : Int) = 0; decide)
  have : o.length ≤ 131072 := by
    rw [e1, List.length_take] at hl; omega
  have e3 : dl B = o := by rw [e1, List.take_of_length_le (by omega)]
  rw [e3]; exact e2
/-- What Decode tells, field by field. -/
def DF (w : World) (B : Ch.L8) (e : Ending) (w' : World) : Prop :=
  ∃ (p q r : Option Addr) (n c m d s f at' : Nat) (err : Int), e = .returned (.tuple #[.agg #[.slice p n c, .slice q m d, .slice r s f], .int .i64 (at' : Int), .int .i64 err]) ∧ Below w.heap.size w w' ∧
    ((err = 261 ∧ n = 0 ∧ m = 0 ∧ s = 0 ∧ at' ≤ B.length) ∨ (err = 260 ∧ n = 0 ∧ m = 0 ∧ s = 0 ∧ at' ≤ B.length) ∨
     (err = 0 ∧ at' = 0 ∧ ∃ l nums strs, enc l nums strs = B ∧ U64 nums ∧ (∀ x ∈ strs, x.size ≤ 2147483647) ∧ (chk l nums.length strs.length).2.2 = 0 ∧ n = l.length ∧ m = nums.length ∧ s = strs.length ∧ LI w' p l ∧ NI w' q nums ∧ TR w' r strs))
theorem DE.fields {w w' : World} {B : Ch.L8} {e : Ending} (h : DE w B e w') : DF w B e w' := by
  obtain ⟨v, at', err, h0, hB, hcase⟩ := h
  rcases hcase with ⟨p, h1, hv, ha, he, h2⟩ | ⟨h1, h2, hv, ha, he⟩ | ⟨h1, h2, ha, he, p, q, r, c1, c2, c3, hv, h3, h4, h5⟩
  · rw [hv] at h0
    exact ⟨none, none, none, 0, 0, 0, 0, 0, 0, at', err, h0, hB, .inl ⟨he, rfl, rfl, rfl, by rw [ha]; exact h2⟩⟩
  · obtain ⟨o, e1, _, _, _, e5⟩ := dec_exact h1
    have h6 := chk_pl (dl B) (dn B).length (dt B).length
    have e6 : (dl B).length ≤ o.length := by rw [e1, List.length_take]; omega
    rw [hv] at h0
    exact ⟨none, none, none, 0, 0, 0, 0, 0, 0, at', err, h0, hB, .inr (.inl ⟨he, rfl, rfl, rfl, by rw [ha]; omega⟩)⟩
  · rw [hv] at h0
    exact ⟨p, q, r, (dl B).length, c1, (dn B).length, c2, (dt B).length, c3, at', err, h0, hB, .inr (.inr ⟨he, ha, dl B, dn B, dt B, dec_taken h1 h2, (dec_exact h1).choose_spec.2.2.1, (dec_exact h1).choose_spec.2.2.2.1, h2, rfl, rfl, rfl, h3, h4, h5⟩)⟩
end Cd
theorem csame_nil (p q r : Option Addr) (c d f : Nat) (W : World) : Calls Tryd.prog 15 #[.agg #[.slice p 0 c, .slice q 0 d, .slice r 0 f], .agg #[.slice none 0 0, .slice none 0 0, .slice none 0 0]] W fun e w' => e = .returned (.bool true) ∧ Below W.heap.size W w' :=
  csame_yes [] [] [] p q r none none none c d f 0 0 0 W (fun i x h => by simp at h) (fun i x h => by simp at h) (.inl rfl) (fun i x h => by simp at h) (fun i x h => by simp at h) (.inl rfl) (by simp) (by simp) (by simp)
set_option maxRecDepth 100000 in
set_option maxHeartbeats 8000000 in
theorem bytes_law (q : Option Addr) (B : Ch.L8) (cap : Nat) (w : World) (hT : Tab10 w) (hq : Cd.BR w q B) (hb : B = [] ∨ ∀ b off, q = some ⟨b, off, none⟩ → b < w.heap.size) (hl : B.length ≤ 9223372036854775807) (hc : B.length ≤ cap) :
    Calls Tryd.prog 8 #[.slice q B.length cap] w fun e w' => e = .returned (.bool true) ∧ Below w.heap.size w w' := by
  have AW := hid (caw_any w hT)
  by_cases hbig : 16777216 < B.length
  · have hbi : (16777216 : Int) < (B.length : Int) := by omega
    clear hT hq hb hc
    go_enter Tryd.func8, Tryd.ntmps8
    go_wp2_with (go_at_call 9; refine AW.out.mono ?_; rintro e w2 ⟨rfl, hB⟩; have B2 := hid hB; clear hB AW)
    go_ret
    exact ⟨rfl, B2.out⟩
  have hbi : ¬ (16777216 : Int) < (B.length : Int) := by omega
  have hli : (B.length : Int) ≤ 16777216 := by omega
  have DC : Hid (∀ W, Below w.heap.size w W → _) := fun W hW => cdec_any q B cap W (hq.on hW) (hb.imp id fun hb b off e => Nat.lt_of_lt_of_le (hb b off e) hW.size) (by omega) hc
  have CVB : Hid (∀ W, Below w.heap.size w W → _) := fun W hW => (hq.on hW).conv (cap := cap)
  clear hT hq hb hc
  go_enter Tryd.func8, Tryd.ntmps8
  go_upto_region 5 with (go_at_call 9; refine AW.out.mono ?_; rintro e w2 ⟨rfl, hB⟩; have B2 := hid hB; clear hB AW)
  have D2 := hid (DC.out w2 B2.out)
  clear DC
  have SN := hid (fun p q r c d f W => csame_nil p q r c d f W)
  go_upto_region 6 with (go_at_call 14; refine D2.out.mono ?_; rintro e w3 hde; obtain ⟨p, q3, r, n, c, m, d, s, f, at', err, rfl, hB, hcase⟩ := hde.fields; have al := alloc_b w3 (.cells #[.slice p n c, .slice q3 m d, .slice r s f] 31); have B3 := hid (below_on (below_on B2.out hB) al); have X3 := hid (Bx.new w3 31 #[.slice p n c, .slice q3 m d, .slice r s f]); have AL := hid al; have HC := hid hcase; clear hB hcase hde al D2 B2)
  generalize w3.alloc (.cells #[.slice p n c, .slice q3 m d, .slice r s f] 31) = w4 at *
  obtain ⟨k0, k1, k2⟩ := bx3 X3.out
  have a0 : (0 : Int) ≤ (at' : Int) := by omega
  obtain h | h | h := HC.out
  · obtain ⟨h1, h2, h3, h4, ha⟩ := h
    subst h1 h2 h3 h4
    have ai : (at' : Int) ≤ (B.length : Int) := by omega
    clear HC CVB AL
    go_wp2_with (go_at_call 15; refine (SN.out _ _ _ _ _ _ _).mono ?_; rintro e w5 ⟨rfl, hB⟩; have B5 := hid (below_on B3.out hB); clear hB SN)
    go_ret
    exact ⟨rfl, B5.out⟩
  · obtain ⟨h1, h2, h3, h4, ha⟩ := h
    subst h1 h2 h3 h4
    have ai : (at' : Int) ≤ (B.length : Int) := by omega
    clear HC CVB AL
    go_wp2_with (go_at_call 15; refine (SN.out _ _ _ _ _ _ _).mono ?_; rintro e w5 ⟨rfl, hB⟩; have B5 := hid (below_on B3.out hB); clear hB SN)
    go_ret
    exact ⟨rfl, B5.out⟩
  · obtain ⟨h1, h2, l, nums, strs, EB, hU, hZ, z2, h3, h4, h5, z3, z4, z5⟩ := h
    subst h1 h2 h3 h4 h5
    obtain ⟨l1, l2, l3, _, _⟩ := Cd.enc_len l nums strs
    rw [EB] at l1 l2 l3
    have L4 := z3.on AL.out
    have N4 := z4.on AL.out
    have S4 := TR.below z5 AL.out (Nat.le_refl _)
    have CH := hid (cchk_any l p q3 r c nums.length d strs.length f w4 L4 (by omega) (by omega) (by omega))
    have EN : Hid (∀ W, Below w4.heap.size w4 W → Calls Tryd.prog 13 #[.agg #[.slice p l.length c, .slice q3 nums.length d, .slice r strs.length f]] W fun e w' => ∃ v, e = .returned (.tuple #[v, .int .i64 0]) ∧ (convert 32 9 v).run Tryd.prog w' = .ok (.string ⟨B.toArray⟩) w' ∧ Below W.heap.size W w') := fun W hB => by
      have := cenc_any l nums strs p q3 r c d f W (L4.on hB) (N4.on hB) (TR.below S4 hB (Nat.le_refl _)) hU (fun x hx => by have := hZ x hx; omega) (by omega) (by omega) (by omega)
      rw [EB, z2] at this
      refine this.mono ?_
      rintro e w' ⟨v, er, rfl, hB, ⟨z, _⟩ | ⟨_, z, _⟩ | ⟨_, _, rfl, hv⟩⟩
      · exact absurd z (by decide)
      · omega
      · exact ⟨v, rfl, hv.conv, hB⟩
    rw [z2] at CH
    clear HC SN AL z2 z3 z4 z5 hU hZ L4 N4 S4 EB l1 l2 l3
    generalize l.length = n1 at *
    generalize nums.length = n2 at *
    generalize strs.length = n3 at *
    go_upto_region 11 with (go_at_call 17; refine CH.out.mono ?_; rintro e w5 ⟨rfl, hB⟩; have BB := hid hB; have B5 := hid (below_on B3.out hB); have X5 := hid (X3.out.on hB); clear k0 k1 k2; obtain ⟨k0, k1, k2⟩ := bx3 X5.out; clear hB CH B3 X3)
    go_upto_region 12 with (go_at_call 13; refine (EN.out w5 BB.out).mono ?_; rintro e w6 ⟨v, rfl, cv, hB⟩; have B6 := hid (below_on B5.out hB); clear hB EN BB B5 X5 k0 k1 k2)
    have cb := CVB.out w6 B6.out
    clear CVB
    go_wp2_with fail
    go_ret
    exact ⟨rfl, B6.out⟩
end Go.Proofs.YtnobafmleellhaaDoor
