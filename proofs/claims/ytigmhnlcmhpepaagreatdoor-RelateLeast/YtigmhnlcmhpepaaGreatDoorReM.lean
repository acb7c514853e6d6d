/-
  abacuslaw18's queued: a fresh queue hands out the lesser of two.
-/
import Derived.Test.YtigmhnlcmhpepaaGreatDoorReL
namespace Go.Proofs.YtigmhnlcmhpepaaGreatDoor
open Go Go.RowKit Go.Deep Go.Shelf

namespace Re
def eTwo : En := ⟨⟨rt 1 4611686018427387904 ⟨#[]⟩, 0⟩, 1, 4611686018427387904, ⟨#[]⟩⟩
def eOne : En := ⟨⟨rt 1 4607182418800017408 ⟨#[]⟩, 1⟩, 1, 4607182418800017408, ⟨#[]⟩⟩
theorem one_two : ct eOne.x eTwo.x < 0 := by
  have a : rt 1 4607182418800017408 ⟨#[]⟩ = .nu 4607182418800017408 := by
    rw [rt, if_neg (by decide)]
    congr 1
  have b : rt 1 4611686018427387904 ⟨#[]⟩ = .nu 4611686018427387904 := by
    rw [rt, if_neg (by decide)]
    congr 1
  show ct ⟨rt 1 4607182418800017408 ⟨#[]⟩, 1⟩ ⟨rt 1 4611686018427387904 ⟨#[]⟩, 0⟩ < 0
  rw [a, b]
  decide
theorem up1 : upF ([] ++ [eTwo]) ([] : List En).length = [eTwo] := upF_zero _
theorem up2 : upF ([eTwo] ++ [eOne]) [eTwo].length = [eOne, eTwo] := by
  have := upF_go (E := [eTwo, eOne]) (i := 1) (by decide) one_two
  rw [upF_zero] at this
  exact this
theorem QS.bel {base q h : Nat} {mv : Value} {E : List En} {c : Int} {W W' : World} (s : QS base q h mv E c W) (k : Kp (fun b => b = q ∨ b = h ∨ mv.ownBlock = some b) W W') (hb : base ≤ W.heap.size) : Below base W W' :=
  k.below hb (fun b e => by
    rcases e with e | e | e
    · rw [e]; exact s.bq
    · rw [e]; exact s.bh
    · exact (World.ownsRow.lt s.row b e).1)
theorem QS.qh {base q h : Nat} {mv : Value} {E : List En} {c : Int} {W : World} (s : QS base q h mv E c W) : q ≠ h := fun e => by
  have e1 := s.qb
  have e2 := s.hb
  rw [← e] at e2
  unfold Bx at e1 e2
  rw [e1] at e2
  simp at e2
end Re

theorem eq_value (k n k' n' : Int) (s t : ByteArray) (w : World) : (Op.equalIn 10000 24 (.agg #[.int .i64 k, .int .u64 n, .string s]) (.agg #[.int .i64 k', .int .u64 n', .string t])).run Tryz.prog w = .ok (k == k' && n == n' && (s.toList == t.toList)) w := by
  have u3 := Tryz.underlying3
  have a3 := Tryz.isAgg3
  have z3 := Tryz.sizeOf3
  have u5 := Tryz.underlying22
  have a5 := Tryz.isAgg22
  have z5 := Tryz.sizeOf22
  have u9 := Tryz.underlying9
  have a9 := Tryz.isAgg9
  have z9 := Tryz.sizeOf9
  have hS : Tryz.prog.underlying 24 = some (.struct (Tryz.prog.fieldsOf 24)) := by kernel_rfl
  rw [show (10000 : Nat) = 9999 + 1 from rfl, run_equalIn_struct w 9999 24 _ _ hS (by kernel_rfl)]
  simp only [Program.fieldsOf, Tryz.underlying24]
  go_simp
  by_cases h1 : k = k' <;> by_cases h2 : n = n' <;> by_cases h3 : s.toList = t.toList <;> simp [h1, h2, h3]

/-- pop of a queue of two. -/
theorem pop_two (base q h g cap : Nat) (x y : Re.En) (c : Int) (hcap : 2 ≤ cap) (hm : cap ≤ 9223372036854775807) (W : World) (s : Re.QS base q h (.slice (some ⟨g, 0, none⟩) 2 cap) [x, y] c W) :
    Calls Tryz.prog 32 #[.pointer (some ⟨h, 0, none⟩)] W fun e w' => e = .returned (.agg (Re.ee x).toArray) ∧ Re.QS base q h (.slice (some ⟨g, 0, none⟩) 1 cap) [y] c w' ∧ Re.Kp (fun b => b = h ∨ b = g) W w' := by
  refine (hpop_any base h g cap [x, y] [y] x y 2 1 W s.hb s.row rfl rfl (by omega) hcap hm rfl rfl (fun W' hb hr => ?_)).mono ?_
  · refine (down_small h g cap 1 _ W' hb (Nat.le_refl _)).mono ?_
    rintro e w' ⟨rfl, rfl⟩
    exact ⟨rfl, hr, Re.Kp.refl _ _⟩
  · rintro e w' ⟨rfl, hb, hr, hk⟩
    refine ⟨rfl, ⟨s.qb.kp hk ?_, hb, hr, s.bq, s.bh⟩, hk⟩
    rintro (z | z)
    · exact s.qh z
    · exact s.row.apart s.qb (by decide) (by rw [z]; rfl)

set_option maxRecDepth 100000 in
set_option maxHeartbeats 4000000 in
theorem queued_any (w : World) : Calls Tryz.prog 20 #[] w fun e w' => e = .returned (.bool true) ∧ Below w.heap.size w w' := by
  have NQ := hid (newq_any w)
  have N2 := hid (fun W => rnum_any 4611686018427387904 W)
  have N1 := hid (fun W => rnum_any 4607182418800017408 W)
  have P2 : Hid (∀ W, Re.QS w.heap.size (w.heap.size + 1) w.heap.size (.slice none 0 0) [] 0 W → Below w.heap.size w W → Calls Tryz.prog 12 #[.pointer (some ⟨w.heap.size + 1, 0, none⟩), .agg #[.int .i64 1, .int .u64 4611686018427387904, .string ⟨#[]⟩]] W fun e w' => e = .returned (.int .i64 0) ∧ (∃ mv', Re.QS w.heap.size (w.heap.size + 1) w.heap.size mv' [Re.eTwo] 1 w') ∧ Below w.heap.size w w') := fun W s b => by
    refine (qpush_any w.heap.size (w.heap.size + 1) w.heap.size _ [] 0 1 4611686018427387904 ⟨#[]⟩ 1 4611686018427387904 ⟨#[]⟩ W s (by decide) (by omega) (by omega) (by omega) (by omega) b.size (fun W => vplainN_any _ _ W)).mono ?_
    rintro e w' ⟨rfl, ⟨mv', s'⟩, k⟩
    have e1 := Re.up1
    rw [Re.eTwo] at e1
    rw [e1] at s'
    exact ⟨rfl, ⟨mv', s'⟩, b.trans (s.bel k b.size)⟩
  have P1 : Hid (∀ W mv, Re.QS w.heap.size (w.heap.size + 1) w.heap.size mv [Re.eTwo] 1 W → Below w.heap.size w W → Calls Tryz.prog 12 #[.pointer (some ⟨w.heap.size + 1, 0, none⟩), .agg #[.int .i64 1, .int .u64 4607182418800017408, .string ⟨#[]⟩]] W fun e w' => e = .returned (.int .i64 1) ∧ (∃ mv', Re.QS w.heap.size (w.heap.size + 1) w.heap.size mv' [Re.eOne, Re.eTwo] 2 w') ∧ Below w.heap.size w w') := fun W mv s b => by
    refine (qpush_any w.heap.size (w.heap.size + 1) w.heap.size mv [Re.eTwo] 1 1 4607182418800017408 ⟨#[]⟩ 1 4607182418800017408 ⟨#[]⟩ W s (by decide) (by omega) (by omega) (by omega) (by omega) b.size (fun W => vplainN_any _ _ W)).mono ?_
    rintro e w' ⟨rfl, ⟨mv', s'⟩, k⟩
    have e1 := Re.up2
    have e2 : Re.eOne = ⟨⟨Re.rt 1 4607182418800017408 ⟨#[]⟩, 1⟩, 1, 4607182418800017408, ⟨#[]⟩⟩ := rfl
    rw [← e2, e1] at s'
    exact ⟨rfl, ⟨mv', s'⟩, b.trans (s.bel k b.size)⟩
  have PP : Hid (∀ W mv, Re.QS w.heap.size (w.heap.size + 1) w.heap.size mv [Re.eOne, Re.eTwo] 2 W → Below w.heap.size w W → Calls Tryz.prog 14 #[.pointer (some ⟨w.heap.size + 1, 0, none⟩)] W fun e w' => e = .returned (.tuple #[.agg #[.int .i64 1, .int .u64 4607182418800017408, .string ⟨#[]⟩], .int .i64 1, .bool true]) ∧ (∃ mv', Re.QS w.heap.size (w.heap.size + 1) w.heap.size mv' [Re.eTwo] 2 w') ∧ Below w.heap.size w w') := fun W mv s b => by
    obtain ⟨g, cap, rfl, h1, h2, h3, _⟩ := s.row.open (by simp)
    have hg : g < W.heap.size := (World.ownsRow.lt s.row g rfl).2
    refine (qpop_any w.heap.size (w.heap.size + 1) w.heap.size _ _ [Re.eOne, Re.eTwo] [Re.eTwo] 2 Re.eOne (fun b => b = w.heap.size ∨ b = g) W s (by decide) (fun b e => by rcases e with e | e; rw [e]; exact s.hb.lt; rw [e]; exact hg) (fun W' s' => pop_two _ _ _ g cap _ _ _ h1 (by simp only [maxLen] at h2; omega) W' s')).mono ?_
    rintro e w' ⟨rfl, s', k⟩
    exact ⟨rfl, ⟨_, s'⟩, b.trans (k.below b.size (fun b e => by rcases e with e | e; rw [e]; exact Nat.le_refl _; rw [e]; exact h3))⟩
  have LE : Hid (∀ W mv, Re.QS w.heap.size (w.heap.size + 1) w.heap.size mv [Re.eTwo] 2 W → Calls Tryz.prog 16 #[.pointer (some ⟨w.heap.size + 1, 0, none⟩)] W fun e w' => e = .returned (.int .i64 1) ∧ w' = W) := fun W mv s => qlen_any _ _ _ mv _ _ W s
  go_enter Tryz.func20, Tryz.ntmps20
  go_wp2_with fail
  refine NQ.out.mono ?_
  rintro e w1 ⟨rfl, q1, b1⟩
  have T1 := hid (And.intro q1 b1)
  clear q1 b1 NQ
  go_wp2_with fail
  refine (N2.out _).mono ?_
  rintro e w2 ⟨rfl, b2⟩
  have T2 := hid (And.intro (T1.out.1.on b2) (below_on T1.out.2 b2))
  clear b2 T1 N2
  go_wp2_with fail
  refine (P2.out _ T2.out.1 T2.out.2).mono ?_
  rintro e w3 ⟨rfl, ⟨m3, q3⟩, b3⟩
  have T3 := hid (And.intro q3 b3)
  clear q3 b3 T2 P2
  go_wp2_with fail
  refine (N1.out _).mono ?_
  rintro e w4 ⟨rfl, b4⟩
  have T4 := hid (And.intro (T3.out.1.on b4) (below_on T3.out.2 b4))
  clear b4 T3
  go_wp2_with fail
  refine (P1.out _ _ T4.out.1 T4.out.2).mono ?_
  rintro e w5 ⟨rfl, ⟨m5, q5⟩, b5⟩
  have T5 := hid (And.intro q5 b5)
  clear q5 b5 T4 P1
  go_wp2_with fail
  refine (PP.out _ _ T5.out.1 T5.out.2).mono ?_
  rintro e w6 ⟨rfl, ⟨m6, q6⟩, b6⟩
  have x6 := Bx.new w6 24 #[.int .i64 1, .int .u64 4607182418800017408, .string ⟨#[]⟩]
  have b7 := alloc_b w6 (.cells #[.int .i64 1, .int .u64 4607182418800017408, .string ⟨#[]⟩] 24)
  have T6 := hid (And.intro (q6.on b7) (below_on b6 b7))
  have X6 := hid x6
  clear q6 b6 b7 T5 PP x6
  have EQ : ∀ W, (Op.equalIn 10000 24 (.agg #[.int .i64 1, .int .u64 4607182418800017408, .string ⟨#[]⟩]) (.agg #[.int .i64 1, .int .u64 4607182418800017408, .string ⟨#[]⟩])).run Tryz.prog W = .ok true W := fun W => by rw [eq_value]; simp
  go_upto_region 7 with fail
  generalize w6.alloc (.cells #[.int .i64 1, .int .u64 4607182418800017408, .string ⟨#[]⟩] 24) = w7 at *
  have MK : Hid (∀ W W' : World, (Re.QS w.heap.size (w.heap.size + 1) w.heap.size m6 [Re.eTwo] 2 W ∧ Below w.heap.size w W) ∧ Bx W w6.heap.size 24 #[.int .i64 1, .int .u64 4607182418800017408, .string ⟨#[]⟩] → Below W.heap.size W W' → (Re.QS w.heap.size (w.heap.size + 1) w.heap.size m6 [Re.eTwo] 2 W' ∧ Below w.heap.size w W') ∧ Bx W' w6.heap.size 24 #[.int .i64 1, .int .u64 4607182418800017408, .string ⟨#[]⟩]) := fun W W' z b => ⟨⟨z.1.1.on b, below_on z.1.2 b⟩, z.2.on b⟩
  have SS : Hid (∀ W : World, (Re.QS w.heap.size (w.heap.size + 1) w.heap.size m6 [Re.eTwo] 2 W ∧ Below w.heap.size w W) ∧ Bx W w6.heap.size 24 #[.int .i64 1, .int .u64 4607182418800017408, .string ⟨#[]⟩] → W.cell? ⟨w6.heap.size, 0, none⟩ = some (.int .i64 1) ∧ W.cell? ⟨w6.heap.size, 1, none⟩ = some (.int .u64 4607182418800017408) ∧ W.cell? ⟨w6.heap.size, 2, none⟩ = some (.string ⟨#[]⟩)) := fun W z => ⟨z.2.cell 0 _ rfl, z.2.cell 1 _ rfl, z.2.cell 2 _ rfl⟩
  have U0 := hid (MK.out w7 w7.drew ⟨T6.out, X6.out⟩ (Below.drew (Below.refl _ _)))
  have LC : Hid (∀ W : World, (Re.QS w.heap.size (w.heap.size + 1) w.heap.size m6 [Re.eTwo] 2 W ∧ Below w.heap.size w W) ∧ Bx W w6.heap.size 24 #[.int .i64 1, .int .u64 4607182418800017408, .string ⟨#[]⟩] → Calls Tryz.prog 16 #[.pointer (some ⟨w.heap.size + 1, 0, none⟩)] W fun e w' => e = .returned (.int .i64 1) ∧ w' = W) := fun W z => LE.out W _ z.1.1
  clear LE T6 X6
  go_region_held3 (fun wx => wx.cell? ⟨w6.heap.size, 0, none⟩ = some (.int .i64 1) ∧ wx.cell? ⟨w6.heap.size, 1, none⟩ = some (.int .u64 4607182418800017408) ∧ wx.cell? ⟨w6.heap.size, 2, none⟩ = some (.string ⟨#[]⟩)) (first | (with_reducible exact SS.out _ U1.out) | (with_reducible exact SS.out _ U0.out)) (first
    | (go_at_call 18; with_reducible refine (N1.out _).mono ?_; rintro e w8 ⟨rfl, hB⟩; have U1 := hid (MK.out _ _ U0.out hB); clear hB)
    | (go_at_call 16; with_reducible refine (LC.out _ U1.out).mono ?_; rintro e w9 ⟨rfl, hw⟩; rw [hw]; clear hw))
  have F := hid U1.out.1.2
  clear U0 U1 SS MK LC N1
  go_wp2_with fail
  go_ret
  exact ⟨rfl, F.out⟩
end Go.Proofs.YtigmhnlcmhpepaaGreatDoor
