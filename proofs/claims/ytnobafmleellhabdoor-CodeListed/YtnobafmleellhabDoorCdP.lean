/-
  code: Encode.
-/
import Derived.Test.YtnobafmleellhabDoorCdO
namespace Go.Proofs.YtnobafmleellhabDoor
open Go Go.RowKit Go.Deep Go.Shelf

namespace Cd
theorem hd_rng {k x : Int} (h : hd k x = true) : 0 ≤ x ∧ ((k = 1 ∨ k = 2 ∨ k = 3) ∨ x ≤ 32768) := by
  unfold hd at h
  split at h
  · have := of_decide_eq_true h; omega
  split at h
  · have := of_decide_eq_true h; omega
  split at h
  · have := of_decide_eq_true h; omega
  split at h
  · have := of_decide_eq_true h; omega
  split at h
  · have := of_decide_eq_true h; omega
  split at h
  · have := of_decide_eq_true h; omega
  split at h
  · have := of_decide_eq_true h; omega
  split at h
  · have := of_decide_eq_true h; omega
  split at h
  · have := of_decide_eq_true h; omega
  · have := of_decide_eq_true h; omega
theorem args_rng {f b : Int} (h : (args f).1 ≤ b ∧ b ≤ (args f).2) : 1 ≤ f ∧ f ≤ 12 ∧ 1 ≤ b ∧ b ≤ 32768 := by
  unfold args at h
  split at h
  · simp only at h; omega
  split at h
  · simp only at h; omega
  split at h
  · simp only at h; omega
  split at h
  · simp only at h; omega
  · simp only at h; omega
theorem tab_b : ∀ r ∈ tab, r.b ≠ 1 ∧ r.b ≠ 2 ∧ r.b ≠ 3 := by
  intro r hr
  simp only [tab, List.mem_cons, List.not_mem_nil, or_false] at hr
  rcases hr with h | h | h | h | h | h | h | h | h | h | h | h | h | h | h | h | h | h | h | h | h | h | h | h | h | h | h | h | h | h | h | h | h | h <;> (rw [h]; simp)
theorem row_b (n : Nat) : (row n).b ≠ 1 ∧ (row n).b ≠ 2 ∧ (row n).b ≠ 3 := by
  by_cases h : n < 34
  · refine tab_b _ ?_
    rw [row, List.getD_eq_getElem?_getD, List.getElem?_eq_getElem (by rw [tab_len]; exact h)]
    exact List.getElem_mem _
  · have : row n = zr := by rw [row, List.getD_eq_getElem?_getD, List.getElem?_eq_none (by rw [tab_len]; omega)]; rfl
    rw [this]; simp [zr]
theorem fs_mem {r : Rw} {A B v : Int} (h : v ∈ fs r A B) : (v = A ∧ r.a ≠ 0) ∨ (v = B ∧ r.b ≠ 0) := by
  unfold fs at h
  rw [List.mem_append] at h
  rcases h with h | h
  · split at h
    · cases h
    · exact .inl ⟨by simpa using h, by assumption⟩
  · split at h
    · cases h
    · exact .inr ⟨by simpa using h, by assumption⟩
theorem rt_wr {n N S i : Nat} {x : In} (h : rt n N S i x = true) (hn : n ≤ 9223372036854775807) (hN : N ≤ 9223372036854775807) (hS : S ≤ 9223372036854775807) : wr1 x := by
  obtain ⟨h1, h2, h3, h4⟩ := rt_ok h
  obtain ⟨w1, w2, f⟩ := ok_ft h1
  refine ⟨w1, w2, fun v hv => ?_⟩
  have rb := row_b x.w.toNat
  have rg := rx_rng x
  unfold RwR at rg
  unfold ft at f
  by_cases h10 : (rx x).a = 10
  · rw [if_pos h10] at f
    have := args_rng (of_decide_eq_true f)
    rcases fs_mem hv with ⟨e, _⟩ | ⟨e, _⟩ <;> omega
  · rw [if_neg h10, Bool.and_eq_true] at f
    obtain ⟨a0, a1⟩ := hd_rng f.1
    obtain ⟨b0, b1⟩ := hd_rng f.2
    rcases fs_mem hv with ⟨e, _⟩ | ⟨e, _⟩
    · refine ⟨by omega, ?_⟩
      rcases a1 with (a1 | a1 | a1) | a1
      · have := h3 a1; omega
      · have := h4 a1; omega
      · have := h2 a1; omega
      · omega
    · refine ⟨by omega, ?_⟩
      have : (rx x).b ≠ 1 ∧ (rx x).b ≠ 2 ∧ (rx x).b ≠ 3 := rb
      omega
def enc (l : List In) (nums : List Int) (strs : List ByteArray) : Ch.L8 :=
  [65, 66, 67, 49] ++ (num nums.length ++ nums.flatMap dbl) ++ (num strs.length ++ strs.flatMap tx1) ++ (num l.length ++ l.flatMap op1)
/-- What Encode tells. -/
def ET (w0 : World) (C : Int) (E : Ch.L8) (e : Ending) (w' : World) : Prop :=
  ∃ v err, e = .returned (.tuple #[v, .int .i64 err]) ∧ Below w0.heap.size w0 w' ∧ ((C = 260 ∧ err = 260 ∧ v = .slice none 0 0) ∨ (C = 0 ∧ 16777216 < E.length ∧ err = 3 ∧ v = .slice none 0 0) ∨ (C = 0 ∧ E.length ≤ 16777216 ∧ err = 0 ∧ B8 w0.heap.size w' v E))
theorem chk_err (l : List In) (N S : Nat) : ((chk l N S).2.2 = 0 ∧ ∀ x ∈ l, ∃ i, rt l.length N S i x = true) ∨ (chk l N S).2.2 = 260 := by
  rcases hts_err l N S with h | ⟨h, _⟩
  · left
    rw [chk_ok h]
    refine ⟨rfl, fun x hx => ?_⟩
    obtain ⟨_, hb, _⟩ := hts_ok h
    obtain ⟨i, hi⟩ := List.getElem?_of_mem hx
    have := bad_none hb i x hi
    exact ⟨0 + i, this⟩
  · right
    rw [chk_no h]
end Cd
theorem Fk.on0 {wb : Nat} {w w' w0 : World} (h : Below w0.heap.size w0 w) (k : Fk wb w w') (hb : w0.heap.size ≤ wb) : Below w0.heap.size w0 w' := h.trans (k.bel.mono hb)
set_option maxRecDepth 100000 in
set_option maxHeartbeats 4000000 in
theorem cenc_any (l : List Cd.In) (nums : List Int) (strs : List ByteArray) (p q r : Option Addr) (cap c2 c3 : Nat) (w : World) (hL : Cd.LI w p l) (hQ : Cd.NI w q nums) (hR : TR w r strs) (hU : Cd.U64 nums) (hZ : ∀ s ∈ strs, s.size ≤ 9223372036854775807) (hn : l.length ≤ 9223372036854775807) (hN : nums.length ≤ 9223372036854775807) (hS : strs.length ≤ 9223372036854775807) :
    Calls Tryd.prog 11 #[.agg #[.slice p l.length cap, .slice q nums.length c2, .slice r strs.length c3]] w fun e w' => Cd.ET w (Cd.chk l nums.length strs.length).2.2 (Cd.enc l nums strs) e w' := by
  have B1 := hid (alloc_b w (.cells #[.slice p l.length cap, .slice q nums.length c2, .slice r strs.length c3] 26))
  have X1 := hid (Bx.new w 26 #[.slice p l.length cap, .slice q nums.length c2, .slice r strs.length c3])
  have CH := hid (cchk_any l p q r cap nums.length c2 strs.length c3 _ (hL.on B1.out) hn (by omega) (by omega))
  have CE := Cd.chk_err l nums.length strs.length
  have DB : Hid (∀ wb W L, w.heap.size ≤ wb → WS W wb L → Below w.heap.size w W → _) := fun wb W L hb hW hB => cdbls_any hW q c2 nums w hB hb hQ hU hN
  have DT : Hid (∀ wb W L, w.heap.size ≤ wb → WS W wb L → Below w.heap.size w W → _) := fun wb W L hb hW hB => ctxts_any hW r c3 strs w hB hb hR hZ hS
  have DI : Hid (∀ wb W L, (∀ x ∈ l, Cd.wr1 x) → w.heap.size ≤ wb → WS W wb L → Below w.heap.size w W → _) := fun wb W L hx hb hW hB => cins_any hW p cap l w hB hb hL hx hn
  have TX : Hid (∀ wb W L, WS W wb L → _) := fun wb W L hW => ctext_any hW ⟨#[65, 66, 67, 49]⟩ (by decide)
  have WR : Hid ((∀ x ∈ l, ∃ i, Cd.rt l.length nums.length strs.length i x = true) → ∀ x ∈ l, Cd.wr1 x) := fun h x hx => by
    obtain ⟨i, hi⟩ := h x hx
    exact Cd.rt_wr hi (by omega) (by omega) (by omega)
  have EE : Hid (Cd.enc l nums strs = [65, 66, 67, 49] ++ (Cd.num nums.length ++ nums.flatMap Cd.dbl) ++ (Cd.num strs.length ++ strs.flatMap Cd.tx1) ++ (Cd.num l.length ++ l.flatMap Cd.op1)) := rfl
  generalize Cd.enc l nums strs = E at *
  generalize Cd.chk l nums.length strs.length = C at *
  obtain ⟨C1, C2, C3⟩ := C
  clear hL hQ hR hU hZ hn hN hS
  generalize nums.length = N at *
  generalize strs.length = S at *
  generalize hnl : l.length = n at *
  go_enter Tryd.func11, Tryd.ntmps11
  go_upto_region 1 with fail
  generalize w.alloc (.cells #[.slice p n cap, .slice q N c2, .slice r S c3] 26) = w1 at *
  obtain ⟨k0, k1, k2⟩ := bx3 X1.out
  go_upto_region 2 with (go_at_call 6; refine CH.out.mono ?_; rintro e w2 ⟨rfl, hB⟩; have B2 := hid (below_on B1.out hB); have X2 := hid (X1.out.on hB); clear hB CH)
  clear k0 k1 k2 X1 B1
  rcases CE with ⟨h3, hx⟩ | h3
  · have h3' : C3 = 0 := h3
    subst h3'
    have WX := hid (WR.out hx)
    have WN := hid (WS.new w2)
    have B3 := hid (below_on B2.out (alloc_b w2 (.cells #[.slice none 0 0, .bool false] 61)))
    have X3 := hid (X2.out.on (alloc_b w2 (.cells #[.slice none 0 0, .bool false] 61)))
    have sz := B2.out.size
    have xb : w.heap.size ≠ w2.heap.size := by have := X2.out.lt; omega
    clear WR hx h3 X2
    go_upto_region 5 with fail
    generalize hwb : w2.heap.size = wb at *
    generalize w2.alloc (.cells #[.slice none 0 0, .bool false] 61) = w3 at *
    go_upto_region 6 with (go_at_call 20; with_reducible refine (TX.out _ _ _ WN.out).mono ?_; rintro e w4 ⟨rfl, g1, g2⟩; have W4 := hid g1; have B4 := hid (Fk.on0 B3.out g2 sz); have X4 := hid (g2.bx _ _ _ (by decide) xb X3.out); obtain ⟨k0, k1, k2⟩ := bx3 X4.out; clear g1 g2 TX)
    go_upto_region 7 with (go_at_call 21; with_reducible refine (DB.out _ _ _ sz W4.out B4.out).mono ?_; rintro e w5 ⟨rfl, g1, g2⟩; have W5 := hid g1; have B5 := hid (Fk.on0 B4.out g2 sz); have X5 := hid (g2.bx _ _ _ (by decide) xb X4.out); clear k0 k1 k2; obtain ⟨k0, k1, k2⟩ := bx3 X5.out; clear g1 g2 DB)
    go_upto_region 8 with (go_at_call 22; with_reducible refine (DT.out _ _ _ sz W5.out B5.out).mono ?_; rintro e w6 ⟨rfl, g1, g2⟩; have W6 := hid g1; have B6 := hid (Fk.on0 B5.out g2 sz); have X6 := hid (g2.bx _ _ _ (by decide) xb X5.out); clear k0 k1 k2; obtain ⟨k0, k1, k2⟩ := bx3 X6.out; clear g1 g2 DT)
    go_upto_region 9 with (go_at_call 23; with_reducible refine (DI.out _ _ _ WX.out sz W6.out B6.out).mono ?_; rintro e w7 ⟨rfl, g1, g2⟩; have W7 := hid g1; have B7 := hid (Fk.on0 B6.out g2 sz); clear k0 k1 k2 g1 g2 DI)
    have W8 : Hid (WS w7 wb E) := by
      have := W7.out
      rw [EE.out]
      exact this
    obtain ⟨mv, M, hx, h1, h2, h5⟩ := W8.out.ex
    obtain ⟨c0, c1, -, -⟩ := bx2w hx
    by_cases hl : 16777216 < E.length
    · rw [decide_eq_true hl] at c1
      have F : Hid (Cd.ET w 0 E (.returned (.tuple #[.slice none 0 0, .int .i64 3])) w7) := ⟨_, _, rfl, B7.out, .inr (.inl ⟨rfl, hl, rfl, rfl⟩)⟩
      clear W7 W8 EE hx h1 h2 h5 hl
      go_wp2_with fail
      go_ret2
      exact F.out
    · rw [decide_eq_false hl] at c1
      obtain rfl := h5 (by omega)
      have F : Hid (Cd.ET w 0 M (.returned (.tuple #[mv, .int .i64 0])) w7) := ⟨_, _, rfl, B7.out, .inr (.inr ⟨rfl, by omega, rfl, by
        refine ⟨h1.1, ?_⟩
        rcases h1.2 with hn | ⟨g, cap, cur, e1, e2, e3⟩
        · exact .inl hn
        · exact .inr ⟨g, cap, cur, e1, by omega, e3⟩⟩)⟩
      clear W7 W8 EE hx h1 h2 h5 hl
      go_wp2_with fail
      go_ret2
      exact F.out
  · have h3' : C3 = 260 := h3
    subst h3'
    have F : Hid (Cd.ET w 260 E (.returned (.tuple #[.slice none 0 0, .int .i64 260])) w2) := ⟨_, _, rfl, B2.out, .inl ⟨rfl, rfl, rfl⟩⟩
    clear DB DT DI TX WR EE X2 h3
    go_wp2_with fail
    go_ret2
    exact F.out
end Go.Proofs.YtnobafmleellhabDoor
