import Derived.Test.YthpeolamapoamaaDoorXIs
import Derived.Test.YthpeolamapoamaaDoorIRound
import Derived.BigQuiet
/-
  soft: rounded.
-/
namespace Go.Proofs.YthpeolamapoamaaDoor
open Go Go.RowKit Go.Deep

/-- The flags that a rounding raises: the result V * 2^e (or a trifle above), the double x, L the bits of V, t the zeros at its end. -/
def Ie.flg (V e : Int) (more : Bool) (d : Int) (t L : Nat) : Int :=
  if Ie.isx V e more d t = true then 0 else 16 + (if Ie.isi d = true then 4 else 0) + (if (L : Int) + e ≤ -1022 then 8 else 0)

/-- What rounded answers. -/
def RoundedTold (neg : Bool) (V e : Int) (more : Bool) (w : World) (r : Ending) (w' : World) : Prop :=
  ∃ (x : Int) (t L : Nat), r = .returned (.tuple #[.int .u64 (Ie.sg neg x), .int .i64 (Ie.flg V e more (Ie.sg neg x) t L)]) ∧ Ie.Rnd V 1 e more x ∧ Nm.Trl V t ∧ Nm.BLen V L ∧ Below w.heap.size w w'

theorem ret_ui {a b c d : Int} (h : a = b) (k : c = d) : Ending.returned (.tuple #[.int .u64 a, .int .i64 c]) = .returned (.tuple #[.int .u64 b, .int .i64 d]) := by rw [h, k]

set_option maxRecDepth 100000 in
set_option maxHeartbeats 4000000 in
theorem rounded_any (neg more : Bool) (p : Option Addr) (l c : Nat) (zs : List Int) (e V : Int) (w : World) (ha : Arg w p l c zs) (hT : Tab w) (hV : Nm.val zs = V) (hl : l = 0 ↔ V = 0) (hb : V < 2 ^ 5000) (q1 : -10000 ≤ e) (q2 : e ≤ 10000) :
    Calls Tryd.prog 20 #[exactOf neg p l c e more] w fun r w' => RoundedTold neg V e more w r w' := by
  have v0 : 0 ≤ V := by rw [← hV]; exact (Nm.val_bd zs ha.2.2.2.2).1
  have tz : Nm.tsize zs ≤ 4096 := (Nm.tsize_le_iff ha.2.2.2.2 4096).2 (by rw [hV, pw_4096]; have := Nm.two_mono (show 5000 ≤ 262144 by omega); omega)
  obtain ⟨L, hL, BL, hl2, _⟩ := blen_is zs ha.2.2.2.2
  rw [hV] at BL
  have Lb : (L : Int) ≤ 262144 := by omega
  obtain ⟨t, tb, ht⟩ : ∃ t : Nat, t ≤ 10000 ∧ Nm.Trl V t := by
    rcases (show V = 0 ∨ 0 < V by omega) with h | h
    · exact ⟨0, by omega, .inl ⟨h, rfl⟩⟩
    · obtain ⟨t, h1, h2⟩ := trl_ex 5000 V h hb
      exact ⟨t, by omega, h2⟩
  have R0 := Row4.new w 34 (.bool neg) (.slice p l c) (.int .i64 e) (.bool more)
  have B0 := alloc_b w (.cells #[.bool neg, .slice p l c, .int .i64 e, .bool more] 34)
  have RD := hid (round_any neg p l c zs _ (ha.below B0 (Nat.le_refl _)) (hT.below B0) tz V e more hV)
  have IS := hid (fun (d : Int) (wx : World) (hx : Below w.heap.size w wx) (d0 : 0 ≤ d) (d1 : d < 18446744073709551616) => is_any neg more p l c zs e V d t wx (ha.below hx (Nat.le_refl _)) (hT.below hx) hV hl ht tb q1 q2 d0 d1)
  have BL1 := hid (fun (wx : World) (hx : Below w.heap.size w wx) => bitLen_n L p l c zs wx (ha.below hx (Nat.le_refl _)) hL)
  have IN := hid (fun (d : Int) (wx : World) (d0 : 0 ≤ d) (d1 : d < 18446744073709551616) => infinite_any d wx d0 d1)
  have FF : Hid (∀ (x f : Int) (w' : World), f = Ie.flg V e more (Ie.sg neg x) t L → Ie.Rnd V 1 e more x → Below w.heap.size w w' → RoundedTold neg V e more w (.returned (.tuple #[.int .u64 (Ie.sg neg x), .int .i64 f])) w') := by
    intro x f w' hf hR hB
    exact ⟨x, t, L, by rw [hf], hR, ht, BL, hB⟩
  obtain ⟨⟨r0, r1, r2, r3⟩, -⟩ := R0.cells
  have HR0 := hid R0
  have HB0 := hid B0
  simp only [exactOf] at IS ⊢
  clear ha hT hV hl hb v0 tz hL BL hl2 ht tb R0 B0
  go_enter Tryd.func20, Tryd.ntmps20
  go_wp2_with fail
  generalize hwA : w.alloc (.cells #[.bool neg, .slice p l c, .int .i64 e, .bool more] 34) = wA at *
  refine RD.out.mono ?_
  rintro r wa ⟨x, rfl, R, hB⟩
  have bd := R.bd
  obtain ⟨x0, x1⟩ := bd
  have sg0 : 0 ≤ Ie.sg neg x ∧ Ie.sg neg x < 18446744073709551616 := by simp only [Ie.sg]; split <;> omega
  obtain ⟨g0, g1⟩ := sg0
  have Ra := HR0.out.below hB HR0.out.lt
  have Ba := HB0.out.trans (hB.mono HB0.out.size)
  have IS1 := hid (IS.out _ wa Ba g0 g1)
  have F1 := hid (fun (f : Int) (w' : World) (h : f = Ie.flg V e more (Ie.sg neg x) t L) (hB : Below w.heap.size w w') => FF.out x f w' h R hB)
  have HBa := hid Ba
  have HRa := hid Ra
  obtain ⟨⟨s0, s1, s2, s3⟩, -⟩ := Ra.cells
  clear hB Ra Ba IS FF RD HR0 HB0 R r0 r1 r2 r3
  generalize hd : Ie.sg neg x = d at *
  go_wp2_with fail
  refine IS1.out.mono ?_
  rintro r wb ⟨rfl, hB⟩
  have Rb := HRa.out.below hB HRa.out.lt
  have Bb := HBa.out.trans (hB.mono HBa.out.size)
  have HBb := hid Bb
  have BQ := hid (fun (k : Nat) => BL1.out (wb.drewN k) (below_drewN Bb k))
  have IN1 := hid (fun (wx : World) => IN.out d wx g0 g1)
  clear s0 s1 s2 s3
  obtain ⟨⟨s0, s1, s2, s3⟩, -⟩ := Rb.cells
  have F2 : Hid (∀ (f : Int) (w' : World), f = (if Ie.isx V e more d t = true then 0 else 16 + (if Ie.isi d = true then 4 else 0) + (if (L : Int) + e ≤ -1022 then 8 else 0)) → Below w.heap.size w w' → RoundedTold neg V e more w (.returned (.tuple #[.int .u64 d, .int .i64 f])) w') := fun f w' h hB => F1.out f w' h hB
  have O1 : bits .or .i64 16 4 = 20 := by decide
  have O2 : bits .or .i64 16 8 = 24 := by decide
  have O3 : bits .or .i64 20 8 = 28 := by decide
  clear hB HRa HBa IS1 IN BL1 Rb Bb F1
  cases hx : Ie.isx V e more d t
  · rw [hx] at F2
    cases hi : Ie.isi d <;> rw [hi] at F2 IN1
    · by_cases hu : (L : Int) + e ≤ -1022
      · have dd : decide ((L : Int) + e ≤ -1022) = true := by simp; omega
        have F3 := hid (fun (w' : World) (hB : Below w.heap.size w w') => F2.out 24 w' (by simp [hu]) hB)
        clear F2 hx hi hu
        go_wp2_with fail
        refine (IN1.out _).mono ?_
        rintro r wc ⟨rfl, rfl⟩
        go_wp2_with fail
        go_quiet ((go_at_call 29; with_reducible exact Calls.quiet_of_same (BQ.out _)))
        go_wp2_with fail
        go_ret2
        exact F3.out _ (below_drewN HBb.out _)
      · have dd : decide ((L : Int) + e ≤ -1022) = false := by simp; omega
        have F3 := hid (fun (w' : World) (hB : Below w.heap.size w w') => F2.out 16 w' (by simp [hu]) hB)
        clear F2 hx hi hu
        go_wp2_with fail
        refine (IN1.out _).mono ?_
        rintro r wc ⟨rfl, rfl⟩
        go_wp2_with fail
        go_quiet ((go_at_call 29; with_reducible exact Calls.quiet_of_same (BQ.out _)))
        go_wp2_with fail
        go_ret2
        exact F3.out _ (below_drewN HBb.out _)
    · by_cases hu : (L : Int) + e ≤ -1022
      · have dd : decide ((L : Int) + e ≤ -1022) = true := by simp; omega
        have F3 := hid (fun (w' : World) (hB : Below w.heap.size w w') => F2.out 28 w' (by simp [hu]) hB)
        clear F2 hx hi hu
        go_wp2_with fail
        refine (IN1.out _).mono ?_
        rintro r wc ⟨rfl, rfl⟩
        go_wp2_with fail
        go_quiet ((go_at_call 29; with_reducible exact Calls.quiet_of_same (BQ.out _)))
        go_wp2_with fail
        go_ret2
        exact F3.out _ (below_drewN HBb.out _)
      · have dd : decide ((L : Int) + e ≤ -1022) = false := by simp; omega
        have F3 := hid (fun (w' : World) (hB : Below w.heap.size w w') => F2.out 20 w' (by simp [hu]) hB)
        clear F2 hx hi hu
        go_wp2_with fail
        refine (IN1.out _).mono ?_
        rintro r wc ⟨rfl, rfl⟩
        go_wp2_with fail
        go_quiet ((go_at_call 29; with_reducible exact Calls.quiet_of_same (BQ.out _)))
        go_wp2_with fail
        go_ret2
        exact F3.out _ (below_drewN HBb.out _)
  · rw [hx] at F2
    have F3 := hid (fun (w' : World) (hB : Below w.heap.size w w') => F2.out 0 w' (by simp) hB)
    clear F2 hx
    go_wp2_with fail
    go_ret2
    exact F3.out _ HBb.out
end Go.Proofs.YthpeolamapoamaaDoor
