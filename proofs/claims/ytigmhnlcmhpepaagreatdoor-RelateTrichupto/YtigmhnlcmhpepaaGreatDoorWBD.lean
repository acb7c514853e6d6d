/-
  Texts put together: ReM, ReR, ReS, ReT.
-/
import Derived.Test.YtigmhnlcmhpepaaGreatDoorWBA
import Derived.Test.YtigmhnlcmhpepaaGreatDoorWAD
import Derived.Deep.LoopGhost
namespace Go.Proofs.YtigmhnlcmhpepaaGreatDoor
open Go Go.RowKit Go.Deep Go.Shelf

namespace Re
def eTwo : En := ⟨⟨rt 1 4611686018427387904 ⟨#[]⟩, 0⟩, 1, 4611686018427387904, ⟨#[]⟩⟩
def eOne : En := ⟨⟨rt 1 4607182418800017408 ⟨#[]⟩, 1⟩, 1, 4607182418800017408, ⟨#[]⟩⟩
theorem one_two : ct eOne.x eTwo.x < 0 := by
  have a : rt 1 4607182418800017408 ⟨#[]⟩ = .nu 4607182418800017408 := by
    rw [rt, if_neg (by decide)]
    congr 1
  have b : rt 1 4611686018427387904 ⟨#[]⟩ = .nu 4611686018427387904 := by
    rw [rt, if_neg (by decide)]
    congr 1
  show ct ⟨rt 1 4607182418800017408 ⟨#[]⟩, 1⟩ ⟨rt 1 4611686018427387904 ⟨#[]⟩, 0⟩ < 0
  rw [a, b]
  decide
theorem up1 : upF ([] ++ [eTwo]) ([] : List En).length = [eTwo] := upF_zero _
theorem up2 : upF ([eTwo] ++ [eOne]) [eTwo].length = [eOne, eTwo] := by
  have := upF_go (E := [eTwo, eOne]) (i := 1) (by decide) one_two
  rw [upF_zero] at this
  exact this
theorem QS.bel {base q h : Nat} {mv : Value} {E : List En} {c : Int} {W W' : World} (s : QS base q h mv E c W) (k : Kp (fun b => b = q ∨ b = h ∨ mv.ownBlock = some b) W W') (hb : base ≤ W.heap.size) : Below base W W' :=
  k.below hb (fun b e => by
    rcases e with e | e | e
    · rw [e]; exact s.bq
    · rw [e]; exact s.bh
    · exact (World.ownsRow.lt s.row b e).1)
theorem QS.qh {base q h : Nat} {mv : Value} {E : List En} {c : Int} {W : World} (s : QS base q h mv E c W) : q ≠ h := fun e => by
  have e1 := s.qb
  have e2 := s.hb
  rw [← e] at e2
  unfold Bx at e1 e2
  rw [e1] at e2
  simp at e2
end Re

theorem eq_value (k n k' n' : Int) (s t : ByteArray) (w : World) : (Op.equalIn 10000 24 (.agg #[.int .i64 k, .int .u64 n, .string s]) (.agg #[.int .i64 k', .int .u64 n', .string t])).run Tryz.prog w = .ok (k == k' && n == n' && (s.toList == t.toList)) w := by
  have u3 := Tryz.underlying3
  have a3 := Tryz.isAgg3
  have z3 := Tryz.sizeOf3
  have u5 := Tryz.underlying22
  have a5 := Tryz.isAgg22
  have z5 := Tryz.sizeOf22
  have u9 := Tryz.underlying9
  have a9 := Tryz.isAgg9
  have z9 := Tryz.sizeOf9
  have hS : Tryz.prog.underlying 24 = some (.struct (Tryz.prog.fieldsOf 24)) := by kernel_rfl
  rw [show (10000 : Nat) = 9999 + 1 from rfl, run_equalIn_struct w 9999 24 _ _ hS (by kernel_rfl)]
  simp only [Program.fieldsOf, Tryz.underlying24]
  go_simp
  by_cases h1 : k = k' <;> by_cases h2 : n = n' <;> by_cases h3 : s.toList = t.toList <;> simp [h1, h2, h3]

/-- pop of a queue of two. -/
theorem pop_two (base q h g cap : Nat) (x y : Re.En) (c : Int) (hcap : 2 ≤ cap) (hm : cap ≤ 9223372036854775807) (W : World) (s : Re.QS base q h (.slice (some ⟨g, 0, none⟩) 2 cap) [x, y] c W) :
    Calls Tryz.prog 32 #[.pointer (some ⟨h, 0, none⟩)] W fun e w' => e = .returned (.agg (Re.ee x).toArray) ∧ Re.QS base q h (.slice (some ⟨g, 0, none⟩) 1 cap) [y] c w' ∧ Re.Kp (fun b => b = h ∨ b = g) W w' := by
  refine (hpop_any base h g cap [x, y] [y] x y 2 1 W s.hb s.row rfl rfl (by omega) hcap hm rfl rfl (fun W' hb hr => ?_)).mono ?_
  · refine (down_small h g cap 1 _ W' hb (Nat.le_refl _)).mono ?_
    rintro e w' ⟨rfl, rfl⟩
    exact ⟨rfl, hr, Re.Kp.refl _ _⟩
  · rintro e w' ⟨rfl, hb, hr, hk⟩
    refine ⟨rfl, ⟨s.qb.kp hk ?_, hb, hr, s.bq, s.bh⟩, hk⟩
    rintro (z | z)
    · exact s.qh z
    · exact s.row.apart s.qb (by decide) (by rw [z]; rfl)

set_option maxRecDepth 100000 in
set_option maxHeartbeats 4000000 in
theorem queued_any (w : World) : Calls Tryz.prog 20 #[] w fun e w' => e = .returned (.bool true) ∧ Below w.heap.size w w' := by
  have NQ := hid (newq_any w)
  have N2 := hid (fun W => rnum_any 4611686018427387904 W)
  have N1 := hid (fun W => rnum_any 4607182418800017408 W)
  have P2 : Hid (∀ W, Re.QS w.heap.size (w.heap.size + 1) w.heap.size (.slice none 0 0) [] 0 W → Below w.heap.size w W → Calls Tryz.prog 12 #[.pointer (some ⟨w.heap.size + 1, 0, none⟩), .agg #[.int .i64 1, .int .u64 4611686018427387904, .string ⟨#[]⟩]] W fun e w' => e = .returned (.int .i64 0) ∧ (∃ mv', Re.QS w.heap.size (w.heap.size + 1) w.heap.size mv' [Re.eTwo] 1 w') ∧ Below w.heap.size w w') := fun W s b => by
    refine (qpush_any w.heap.size (w.heap.size + 1) w.heap.size _ [] 0 1 4611686018427387904 ⟨#[]⟩ 1 4611686018427387904 ⟨#[]⟩ W s (by decide) (by omega) (by omega) (by omega) (by omega) b.size (fun W => vplainN_any _ _ W)).mono ?_
    rintro e w' ⟨rfl, ⟨mv', s'⟩, k⟩
    have e1 := Re.up1
    rw [Re.eTwo] at e1
    rw [e1] at s'
    exact ⟨rfl, ⟨mv', s'⟩, b.trans (s.bel k b.size)⟩
  have P1 : Hid (∀ W mv, Re.QS w.heap.size (w.heap.size + 1) w.heap.size mv [Re.eTwo] 1 W → Below w.heap.size w W → Calls Tryz.prog 12 #[.pointer (some ⟨w.heap.size + 1, 0, none⟩), .agg #[.int .i64 1, .int .u64 4607182418800017408, .string ⟨#[]⟩]] W fun e w' => e = .returned (.int .i64 1) ∧ (∃ mv', Re.QS w.heap.size (w.heap.size + 1) w.heap.size mv' [Re.eOne, Re.eTwo] 2 w') ∧ Below w.heap.size w w') := fun W mv s b => by
    refine (qpush_any w.heap.size (w.heap.size + 1) w.heap.size mv [Re.eTwo] 1 1 4607182418800017408 ⟨#[]⟩ 1 4607182418800017408 ⟨#[]⟩ W s (by decide) (by omega) (by omega) (by omega) (by omega) b.size (fun W => vplainN_any _ _ W)).mono ?_
    rintro e w' ⟨rfl, ⟨mv', s'⟩, k⟩
    have e1 := Re.up2
    have e2 : Re.eOne = ⟨⟨Re.rt 1 4607182418800017408 ⟨#[]⟩, 1⟩, 1, 4607182418800017408, ⟨#[]⟩⟩ := rfl
    rw [← e2, e1] at s'
    exact ⟨rfl, ⟨mv', s'⟩, b.trans (s.bel k b.size)⟩
  have PP : Hid (∀ W mv, Re.QS w.heap.size (w.heap.size + 1) w.heap.size mv [Re.eOne, Re.eTwo] 2 W → Below w.heap.size w W → Calls Tryz.prog 14 #[.pointer (some ⟨w.heap.size + 1, 0, none⟩)] W fun e w' => e = .returned (.tuple #[.agg #[.int .i64 1, .int .u64 4607182418800017408, .string ⟨#[]⟩], .int .i64 1, .bool true]) ∧ (∃ mv', Re.QS w.heap.size (w.heap.size + 1) w.heap.size mv' [Re.eTwo] 2 w') ∧ Below w.heap.size w w') := fun W mv s b => by
    obtain ⟨g, cap, rfl, h1, h2, h3, _⟩ := s.row.open (by simp)
    have hg : g < W.heap.size := (World.ownsRow.lt s.row g rfl).2
    refine (qpop_any w.heap.size (w.heap.size + 1) w.heap.size _ _ [Re.eOne, Re.eTwo] [Re.eTwo] 2 Re.eOne (fun b => b = w.heap.size ∨ b = g) W s (by decide) (fun b e => by rcases e with e | e; rw [e]; exact s.hb.lt; rw [e]; exact hg) (fun W' s' => pop_two _ _ _ g cap _ _ _ h1 (by simp only [maxLen] at h2; omega) W' s')).mono ?_
    rintro e w' ⟨rfl, s', k⟩
    exact ⟨rfl, ⟨_, s'⟩, b.trans (k.below b.size (fun b e => by rcases e with e | e; rw [e]; exact Nat.le_refl _; rw [e]; exact h3))⟩
  have LE : Hid (∀ W mv, Re.QS w.heap.size (w.heap.size + 1) w.heap.size mv [Re.eTwo] 2 W → Calls Tryz.prog 16 #[.pointer (some ⟨w.heap.size + 1, 0, none⟩)] W fun e w' => e = .returned (.int .i64 1) ∧ w' = W) := fun W mv s => qlen_any _ _ _ mv _ _ W s
  go_enter Tryz.func20, Tryz.ntmps20
  go_wp2_with fail
  refine NQ.out.mono ?_
  rintro e w1 ⟨rfl, q1, b1⟩
  have T1 := hid (And.intro q1 b1)
  clear q1 b1 NQ
  go_wp2_with fail
  refine (N2.out _).mono ?_
  rintro e w2 ⟨rfl, b2⟩
  have T2 := hid (And.intro (T1.out.1.on b2) (below_on T1.out.2 b2))
  clear b2 T1 N2
  go_wp2_with fail
  refine (P2.out _ T2.out.1 T2.out.2).mono ?_
  rintro e w3 ⟨rfl, ⟨m3, q3⟩, b3⟩
  have T3 := hid (And.intro q3 b3)
  clear q3 b3 T2 P2
  go_wp2_with fail
  refine (N1.out _).mono ?_
  rintro e w4 ⟨rfl, b4⟩
  have T4 := hid (And.intro (T3.out.1.on b4) (below_on T3.out.2 b4))
  clear b4 T3
  go_wp2_with fail
  refine (P1.out _ _ T4.out.1 T4.out.2).mono ?_
  rintro e w5 ⟨rfl, ⟨m5, q5⟩, b5⟩
  have T5 := hid (And.intro q5 b5)
  clear q5 b5 T4 P1
  go_wp2_with fail
  refine (PP.out _ _ T5.out.1 T5.out.2).mono ?_
  rintro e w6 ⟨rfl, ⟨m6, q6⟩, b6⟩
  have x6 := Bx.new w6 24 #[.int .i64 1, .int .u64 4607182418800017408, .string ⟨#[]⟩]
  have b7 := alloc_b w6 (.cells #[.int .i64 1, .int .u64 4607182418800017408, .string ⟨#[]⟩] 24)
  have T6 := hid (And.intro (q6.on b7) (below_on b6 b7))
  have X6 := hid x6
  clear q6 b6 b7 T5 PP x6
  have EQ : ∀ W, (Op.equalIn 10000 24 (.agg #[.int .i64 1, .int .u64 4607182418800017408, .string ⟨#[]⟩]) (.agg #[.int .i64 1, .int .u64 4607182418800017408, .string ⟨#[]⟩])).run Tryz.prog W = .ok true W := fun W => by rw [eq_value]; simp
  go_upto_region 7 with fail
  generalize w6.alloc (.cells #[.int .i64 1, .int .u64 4607182418800017408, .string ⟨#[]⟩] 24) = w7 at *
  have MK : Hid (∀ W W' : World, (Re.QS w.heap.size (w.heap.size + 1) w.heap.size m6 [Re.eTwo] 2 W ∧ Below w.heap.size w W) ∧ Bx W w6.heap.size 24 #[.int .i64 1, .int .u64 4607182418800017408, .string ⟨#[]⟩] → Below W.heap.size W W' → (Re.QS w.heap.size (w.heap.size + 1) w.heap.size m6 [Re.eTwo] 2 W' ∧ Below w.heap.size w W') ∧ Bx W' w6.heap.size 24 #[.int .i64 1, .int .u64 4607182418800017408, .string ⟨#[]⟩]) := fun W W' z b => ⟨⟨z.1.1.on b, below_on z.1.2 b⟩, z.2.on b⟩
  have SS : Hid (∀ W : World, (Re.QS w.heap.size (w.heap.size + 1) w.heap.size m6 [Re.eTwo] 2 W ∧ Below w.heap.size w W) ∧ Bx W w6.heap.size 24 #[.int .i64 1, .int .u64 4607182418800017408, .string ⟨#[]⟩] → W.cell? ⟨w6.heap.size, 0, none⟩ = some (.int .i64 1) ∧ W.cell? ⟨w6.heap.size, 1, none⟩ = some (.int .u64 4607182418800017408) ∧ W.cell? ⟨w6.heap.size, 2, none⟩ = some (.string ⟨#[]⟩)) := fun W z => ⟨z.2.cell 0 _ rfl, z.2.cell 1 _ rfl, z.2.cell 2 _ rfl⟩
  have U0 := hid (MK.out w7 w7.drew ⟨T6.out, X6.out⟩ (Below.drew (Below.refl _ _)))
  have LC : Hid (∀ W : World, (Re.QS w.heap.size (w.heap.size + 1) w.heap.size m6 [Re.eTwo] 2 W ∧ Below w.heap.size w W) ∧ Bx W w6.heap.size 24 #[.int .i64 1, .int .u64 4607182418800017408, .string ⟨#[]⟩] → Calls Tryz.prog 16 #[.pointer (some ⟨w.heap.size + 1, 0, none⟩)] W fun e w' => e = .returned (.int .i64 1) ∧ w' = W) := fun W z => LE.out W _ z.1.1
  clear LE T6 X6
  go_region_held3 (fun wx => wx.cell? ⟨w6.heap.size, 0, none⟩ = some (.int .i64 1) ∧ wx.cell? ⟨w6.heap.size, 1, none⟩ = some (.int .u64 4607182418800017408) ∧ wx.cell? ⟨w6.heap.size, 2, none⟩ = some (.string ⟨#[]⟩)) (first | (with_reducible exact SS.out _ U1.out) | (with_reducible exact SS.out _ U0.out)) (first
    | (go_at_call 18; with_reducible refine (N1.out _).mono ?_; rintro e w8 ⟨rfl, hB⟩; have U1 := hid (MK.out _ _ U0.out hB); clear hB)
    | (go_at_call 16; with_reducible refine (LC.out _ U1.out).mono ?_; rintro e w9 ⟨rfl, hw⟩; rw [hw]; clear hw))
  have F := hid U1.out.1.2
  clear U0 U1 SS MK LC N1
  go_wp2_with fail
  go_ret
  exact ⟨rfl, F.out⟩
end Go.Proofs.YtigmhnlcmhpepaaGreatDoor

namespace Go.Proofs.YtigmhnlcmhpepaaGreatDoor
open Go Go.RowKit Go.Deep Go.Shelf

namespace Re
/-- The cells of a list. -/
def fl {α : Type} (enc : α → List Value) (D : List α) : List Value := D.flatMap enc
section
variable {α : Type} {enc : α → List Value} {k : Nat} (hk : ∀ x, (enc x).length = k)
include hk
theorem fl_len (D : List α) : (fl enc D).length = D.length * k := by
  induction D with
  | nil => simp [fl]
  | cons x D ih => rw [fl, List.flatMap_cons, List.length_append, hk, ← fl, ih, List.length_cons, Nat.add_mul, Nat.one_mul, Nat.add_comm]
theorem fl_at : ∀ {D : List α} {i : Nat} {a : α}, D[i]? = some a → ∀ j, j < k → (fl enc D)[i * k + j]? = (enc a)[j]?
  | [], i, a, h, _, _ => by simp at h
  | b :: D, 0, a, h, j, hj => by
    obtain rfl : b = a := Option.some.inj h
    rw [fl, List.flatMap_cons, List.getElem?_append_left (by rw [hk]; omega)]
    simp
  | b :: D, i + 1, a, h, j, hj => by
    rw [fl, List.flatMap_cons, List.getElem?_append_right (by rw [hk, Nat.add_mul]; omega), ← fl]
    rw [← fl_at (D := D) (i := i) (a := a) (by simpa using h) j hj]
    congr 1
    rw [hk, Nat.add_mul]
    omega
/-- One thing of a list, written. -/
theorem fl_set : ∀ (D : List α) (i : Nat) (x : α), i < D.length → (fl enc D).take (i * k) ++ enc x ++ (fl enc D).drop (i * k + k) = fl enc (D.set i x)
  | [], i, x, h => by simp at h
  | b :: D, 0, x, _ => by
    rw [List.set_cons_zero, fl, fl, List.flatMap_cons, List.flatMap_cons, Nat.zero_mul, List.take_zero, List.nil_append, Nat.zero_add, List.drop_append_of_le_length (by rw [hk]; omega), List.drop_of_length_le (by rw [hk]; omega), List.nil_append]
  | b :: D, i + 1, x, h => by
    have ih := fl_set D i x (by simpa using h)
    rw [List.set_cons_succ, fl, fl, List.flatMap_cons, List.flatMap_cons, ← fl, ← fl, ← ih]
    have e : (i + 1) * k = (enc b).length + i * k := by rw [hk, Nat.add_mul]; omega
    rw [e, List.take_append, List.drop_append]
    have e1 : (enc b).take ((enc b).length + i * k) = enc b := List.take_of_length_le (by omega)
    have e2 : (enc b).drop ((enc b).length + i * k + k) = [] := List.drop_of_length_le (by omega)
    rw [e1, e2, List.nil_append, show (enc b).length + i * k - (enc b).length = i * k by omega, show (enc b).length + i * k + k - (enc b).length = i * k + k by omega]
    simp [List.append_assoc]
end
/-- Cells of a block, written one behind the other. -/
theorem bx_setc {g t : Nat} : ∀ (vs : List Value) (o : Nat) (w : World) (L : List Value), Bx w g t L.toArray → o + vs.length ≤ L.length → Bx (w.setCells g o vs) g t (L.take o ++ vs ++ L.drop (o + vs.length)).toArray
  | [], o, w, L, h, _ => by
    have e : L.take o ++ [] ++ L.drop (o + ([] : List Value).length) = L := by simp
    rw [e]; exact h
  | v :: r, o, w, L, h, hl => by
    simp only [List.length_cons] at hl
    have h1 : Bx (w.setCell ⟨g, o, none⟩ v) g t (L.set o v).toArray := by
      have := h.set o v
      rwa [List.setIfInBounds_toArray] at this
    have h2 := bx_setc r (o + 1) _ (L.set o v) h1 (by rw [List.length_set]; omega)
    have e : (L.set o v).take (o + 1) ++ r ++ (L.set o v).drop (o + 1 + r.length) = L.take o ++ v :: r ++ L.drop (o + (v :: r).length) := by
      have e1 : (L.set o v).take (o + 1) = L.take o ++ [v] := by
        rw [List.take_add_one, List.take_set, List.getElem?_set_self (by omega)]
        rw [List.set_eq_of_length_le (by rw [List.length_take]; omega)]
        rfl
      have e2 : (L.set o v).drop (o + 1 + r.length) = L.drop (o + 1 + r.length) := by
        rw [List.drop_set_of_lt (by omega)]
      rw [e1, e2, List.length_cons, show o + 1 + r.length = o + (r.length + 1) by omega]
      simp [List.append_assoc]
    rw [e] at h2
    exact h2
section
variable {α : Type} {enc : α → List Value} {k : Nat} (hk : ∀ x, (enc x).length = k)
include hk
theorem bx_put {g t i : Nat} {D : List α} {w : World} (h : Bx w g t (fl enc D).toArray) (x : α) (hi : i < D.length) : Bx (w.setCells g (i * k) (enc x)) g t (fl enc (D.set i x)).toArray := by
  have e := fl_len hk D
  have m : i * k + k ≤ D.length * k := by
    have := Nat.mul_le_mul_right k (show i + 1 ≤ D.length from hi)
    rwa [Nat.add_mul, Nat.one_mul] at this
  have := bx_setc (enc x) (i * k) w (fl enc D) h (by rw [hk]; omega)
  rw [hk, fl_set hk D i x hi] at this
  exact this
theorem bx_cell {g t i : Nat} {D : List α} {w : World} {a : α} (h : Bx w g t (fl enc D).toArray) (hi : D[i]? = some a) (j : Nat) (hj : j < k) (v : Value) (hv : (enc a)[j]? = some v) : w.cell? ⟨g, i * k + j, none⟩ = some v :=
  h.cell _ _ (by rw [List.getElem?_toArray, fl_at hk hi j hj]; exact hv)
end
/-- What makeSlice lays. -/
theorem made_fl {α : Type} {enc : α → List Value} {k : Nat} (hk : ∀ x, (enc x).length = k) (z : α) (k0 : 0 < k) (n : Nat) : madeCells (enc z).toArray (n * k) = (fl enc (List.replicate n z)).toArray := by
  have sz : (enc z).toArray.size = k := by rw [List.size_toArray]; exact hk z
  have l2 := fl_len hk (List.replicate n z)
  rw [List.length_replicate] at l2
  apply Array.ext
  · rw [size_madeCells, List.size_toArray, l2]
  · intro j h1 h2
    rw [size_madeCells] at h1
    have hi : j / k < n := Nat.div_lt_of_lt_mul (by rwa [Nat.mul_comm])
    have hc : j % k < k := Nat.mod_lt _ k0
    have e := fl_at hk (D := List.replicate n z) (i := j / k) (a := z) (by simp [hi]) (j % k) hc
    rw [Nat.div_add_mod'] at e
    have hz : j % k < (enc z).length := by rw [hk]; exact hc
    rw [List.getElem?_eq_getElem (by rw [l2]; exact h1), List.getElem?_eq_getElem hz] at e
    have e3 : (fl enc (List.replicate n z)).toArray[j] = (enc z)[j % k] := Option.some.inj e
    rw [e3]
    simp [madeCells, hk]
    rw [List.getElem?_eq_getElem hz]
    rfl
/-- A row that is filled from its beginning on. -/
def fil {α : Type} (T : List α) (z : α) (i : Nat) : List α := T.take i ++ List.replicate (T.length - i) z
theorem fil_zero {α : Type} (T : List α) (z : α) : fil T z 0 = List.replicate T.length z := by simp [fil]
theorem fil_all {α : Type} (T : List α) (z : α) : fil T z T.length = T := by simp [fil]
theorem fil_len {α : Type} (T : List α) (z : α) {i : Nat} (h : i ≤ T.length) : (fil T z i).length = T.length := by simp [fil]; omega
theorem fil_at {α : Type} (T : List α) (z : α) {i : Nat} (h : i < T.length) : (fil T z i)[i]? = some z := by
  rw [fil, List.getElem?_append_right (by simp; omega), List.length_take, List.getElem?_replicate]
  rw [if_pos (by omega)]
theorem fil_set {α : Type} (T : List α) (z : α) {i : Nat} {x : α} (h : T[i]? = some x) : (fil T z i).set i x = fil T z (i + 1) := by
  have hl : i < T.length := (List.getElem?_eq_some_iff.1 h).1
  unfold fil
  have l1 : (T.take i).length = i := by rw [List.length_take]; omega
  rw [List.set_append_right _ _ (by omega), l1, Nat.sub_self]
  have e : T.length - i = (T.length - (i + 1)) + 1 := by omega
  rw [e, List.replicate_succ, List.set_cons_zero, List.take_add_one, h]
  simp
end Re
end Go.Proofs.YtigmhnlcmhpepaaGreatDoor

namespace Go.Proofs.YtigmhnlcmhpepaaGreatDoor
open Go Go.RowKit Go.Deep Go.Shelf

namespace Re
/-- A raw value. -/
structure Vl where
  k : Int
  n : Int
  s : ByteArray
  deriving Inhabited
/-- Values that can be read. -/
def LV (w : World) (p : Option Addr) (A : List Vl) : Prop := A = [] ∨ ∃ b off, p = some ⟨b, off, none⟩ ∧ ∀ i a, A[i]? = some a → w.cell? ⟨b, off + i * 3, none⟩ = some (.int .i64 a.k) ∧ w.cell? ⟨b, off + i * 3 + 1, none⟩ = some (.int .u64 a.n) ∧ w.cell? ⟨b, off + i * 3 + 2, none⟩ = some (.string a.s)
theorem LV.on {w w' : World} {p : Option Addr} {A : List Vl} (h : LV w p A) (b : Below w.heap.size w w') : LV w' p A := by
  rcases h with h | ⟨g, o, e, h⟩
  · exact .inl h
  · refine .inr ⟨g, o, e, fun i a hi => ?_⟩
    obtain ⟨c0, c1, c2⟩ := h i a hi
    exact ⟨by rw [b.cell (cell_lt c0)]; exact c0, by rw [b.cell (cell_lt c1)]; exact c1, by rw [b.cell (cell_lt c2)]; exact c2⟩
theorem LV.at {w : World} {p : Option Addr} {A : List Vl} (h : LV w p A) {i : Nat} {a : Vl} (hi : A[i]? = some a) : ∃ b off, p = some ⟨b, off, none⟩ ∧ w.cell? ⟨b, off + i * 3, none⟩ = some (.int .i64 a.k) ∧ w.cell? ⟨b, off + i * 3 + 1, none⟩ = some (.int .u64 a.n) ∧ w.cell? ⟨b, off + i * 3 + 2, none⟩ = some (.string a.s) := by
  rcases h with rfl | ⟨g, o, e, h⟩
  · simp at hi
  · exact ⟨g, o, e, h i a hi⟩
/-- Its tickets. -/
def tks (A : List Vl) : List Tk := A.mapIdx fun i a => ⟨rt a.k a.n a.s, (i : Int)⟩
theorem tks_len (A : List Vl) : (tks A).length = A.length := by simp [tks]
theorem tks_at {A : List Vl} {i : Nat} {a : Vl} (h : A[i]? = some a) : (tks A)[i]? = some ⟨rt a.k a.n a.s, (i : Int)⟩ := by simp [tks, h]
theorem et_len (x : Tk) : (et x).length = 4 := by
  obtain ⟨t, n, s, e⟩ := er_ex x.r
  rw [et, e]; rfl
theorem et_one (x : Tk) : ∀ v ∈ et x, v.oneCell' = true := fun v hv => by
  obtain ⟨t, n, s, e⟩ := er_ex x.r
  rw [et, e] at hv
  simp only [List.mem_append, List.mem_cons, List.not_mem_nil, or_false] at hv
  rcases hv with (rfl | rfl | rfl) | rfl <;> rfl
def zt : Tk := ⟨.nu 0, 0⟩
def ei (x : Int) : List Value := [.int .i64 x]
theorem ei_len (x : Int) : (ei x).length = 1 := rfl
/-- A ticket ahead of another: a strict order. -/
theorem swo : Go.Sort.SWO (ltOf ct) where
  irrefl x := by
    have := ct_anti x x
    simp [ltOf]; omega
  trans x y z h1 h2 := by
    simp only [ltOf, decide_eq_true_eq] at *
    have a := ct_trans (x := x) (y := y) (z := z) (by omega) (by omega)
    have b := ct_b x z
    have c : ct x z ≠ 0 := fun e => by
      have := ct_zero e
      subst this
      have := ct_anti x y
      omega
    omega
  ntrans x y z h1 h2 := by
    simp only [ltOf, decide_eq_false_iff_not] at *
    have e1 := ct_anti x y
    have e2 := ct_anti y z
    have e3 := ct_anti x z
    have a := ct_trans (x := z) (y := y) (z := x) (by omega) (by omega)
    omega
/-- What Sort answers: the numbers of the tickets in their order. -/
def Sorts (A : List Vl) (P : List Int) : Prop := ∃ D : List Tk, D.Perm (tks A) ∧ D.Pairwise (fun x y => ct x y ≤ 0) ∧ P = D.map (·.i)
theorem kp_sorted {w : World} {g m : Nat} {d : Array Tk} {os : Array Obj} : Kp (fun b => b = g) w (sortWorldK et 4 w g 0 m d os) := by
  refine ⟨rfl, rfl, rfl, size_sortWorldK_c et 4 w g 0 m d os, fun b hb hne => ?_⟩
  show ((w.heap.modify g _) ++ os)[b]? = w.heap[b]?
  rw [Array.getElem?_append_left (by simpa using hb), Array.getElem?_modify, if_neg (fun e => hne e.symm)]
theorem holds_row {w : World} {g t : Nat} {d : Array Tk} (h : Bx w g t (fl et d.toList).toArray) : Go.Sort.HoldsK et 4 w g 0 d := by
  intro j hj
  have hs : (Go.Sort.flatK et 4 d).size = d.size * 4 := by simp [Go.Sort.flatK]
  rw [hs] at hj
  have hi : j / 4 < d.size := by omega
  have ha : d.toList[j / 4]? = some d[j / 4]! := by
    rw [Array.getElem?_toList, Array.getElem?_eq_getElem hi, getElem!_pos d (j / 4) hi]
  have hc : j % 4 < 4 := by omega
  have hl : j % 4 < (et d[j / 4]!).length := by rw [et_len]; exact hc
  have := bx_cell et_len h ha (j % 4) hc ((et d[j / 4]!)[j % 4]!) (by rw [getElem!_pos (et d[j / 4]!) (j % 4) hl]; exact List.getElem?_eq_getElem hl)
  have e : j / 4 * 4 + j % 4 = j := by omega
  rw [e] at this
  refine ⟨?_, h.free _⟩
  rw [Nat.zero_add, this]
  congr 1
  have h2 : j < (Go.Sort.flatK et 4 d).size := by rw [hs]; exact hj
  show _ = id (Go.Sort.flatK et 4 d)[j]!
  rw [getElem!_pos (Go.Sort.flatK et 4 d) j h2]
  simp [Go.Sort.flatK]
end Re

theorem sort_call (g : Nat) (d : Array Re.Tk) (w : World) (h : Bx w g 66 (Re.fl Re.et d.toList).toArray) (hsz : d.size < 4611686018427387904) :
    Calls Tryz.prog 34 #[.slice (some ⟨g, 0, none⟩) d.size d.size, .func (.func 28) #[] #[]] w fun e w' => e = .returned (.tuple #[]) ∧ ∃ d' : Array Re.Tk, d'.size = d.size ∧ d'.toList.Perm d.toList ∧ (∀ i j, i < j → j < d.size → Re.ct d'[i]! d'[j]! ≤ 0) ∧ Re.Kp (fun b => b = g) w w' ∧ (∀ i, i < d.size → w'.rangeAt g (i * 4) (Re.et d'[i]!)) := by
  have eg : ∀ args w, (callFunc 28 args).run Tryz.prog w = .ok (.enter 28 args) w := enters_of Tryz.func28 (by kernel_rfl) rfl
  have hH := Re.holds_row h
  have hcon := AnyQ.slices_SortFunc sortLays 4 Tryz.isAgg66 Tryz.sizeOf66 Re.et Re.et_len Re.et_one Re.ct Re.swo 28 #[] g 0 d.size d w eg (fun m os dk _ x y => (against_any x y _).mono (by
    rintro e w' ⟨rfl, os', rfl⟩
    exact ⟨rfl, 0, os', rfl⟩)) hH h.lt hsz
  change Calls Tryz.prog 34 _ _ _ at hcon
  refine hcon.mono ?_
  rintro e w' ⟨rfl, d', m, os, ⟨p1, p2, p3⟩, hs, rfl⟩
  refine ⟨rfl, d', p1, ?_, ?_, Re.kp_sorted, ?_⟩
  · have e1 : d.extract 0 d.size = d := by simp
    have e2 : d'.extract 0 d.size = d' := by rw [← p1]; simp
    rwa [e1, e2] at p3
  · intro i j hij hj
    have := hs i j (Nat.zero_le _) hij hj
    simp only [ltOf, decide_eq_false_iff_not] at this
    have := Re.ct_anti d'[i]! d'[j]!
    omega
  · intro i hi j v hv
    have hd := holdsK_sortWorldK_c Re.et 4 w g 0 d d' m os hH h.lt p1
    have := Go.Proofs.HoldsK.cells hd Re.et_len (i := i) (by rw [p1]; exact hi) j v hv
    rw [Go.WideShapes.add_plain, Nat.zero_add] at this
    exact this
end Go.Proofs.YtigmhnlcmhpepaaGreatDoor

namespace Go.Proofs.YtigmhnlcmhpepaaGreatDoor
open Go Go.RowKit Go.Deep Go.Shelf

namespace Re
theorem infoT : (Tryz.prog.info? 66).map (fun i => (i.zero, i.size, i.bytes)) = some (some (.agg #[.bool false, .int .i64 0, .string ⟨#[]⟩, .int .i64 0]), 4, 40) := by kernel_rfl
theorem infoI : (Tryz.prog.info? 3).map (fun i => (i.zero, i.size, i.bytes)) = some (some (.int .i64 0), 1, 8) := by kernel_rfl
theorem make_t (n : Nat) (hn : n ≤ 4398046511104) (W : World) : (Instr.makeSlice 82 (.int .i64 (n : Int)) (.int .i64 (n : Int))).run Tryz.prog W = .ok (.slice (some ⟨W.heap.size, 0, none⟩) n n) (W.alloc (.cells (fl et (List.replicate n zt)).toArray 66)) := by
  obtain ⟨i, hi, hz⟩ := Option.map_eq_some_iff.1 infoT
  simp only [Prod.mk.injEq] at hz
  obtain ⟨z1, z2, z3⟩ := hz
  have := run_make (P := Tryz.prog) W 82 66 i _ Tryz.underlying82 hi z1 .i64 .i64 (n : Int) (n : Int) (by omega) (by omega) (by rw [z3]; omega) (by omega)
  rw [this, z2, Int.toNat_natCast]
  have e := made_fl et_len zt (by omega) n
  rw [← e]
  rfl
theorem make_i (n : Nat) (hn : n ≤ 4398046511104) (W : World) : (Instr.makeSlice 50 (.int .i64 (n : Int)) (.int .i64 (n : Int))).run Tryz.prog W = .ok (.slice (some ⟨W.heap.size, 0, none⟩) n n) (W.alloc (.cells (fl ei (List.replicate n 0)).toArray 3)) := by
  obtain ⟨i, hi, hz⟩ := Option.map_eq_some_iff.1 infoI
  simp only [Prod.mk.injEq] at hz
  obtain ⟨z1, z2, z3⟩ := hz
  have := run_make (P := Tryz.prog) W 50 3 i _ Tryz.underlying50 hi z1 .i64 .i64 (n : Int) (n : Int) (by omega) (by omega) (by rw [z3]; omega) (by omega)
  rw [this, z2, Int.toNat_natCast]
  have e := made_fl ei_len (0 : Int) (by omega) n
  rw [← e]
  rfl
end Re

set_option maxRecDepth 100000 in
set_option maxHeartbeats 8000000 in
theorem sort_any (p : Option Addr) (cap : Nat) (A : List Re.Vl) (w : World) (hv : Re.LV w p A) (hw : ∀ a ∈ A, 0 ≤ a.n ∧ a.n < 18446744073709551616) (hl : A.length ≤ 4398046511104) :
    Calls Tryz.prog 19 #[.slice p A.length cap] w fun e w' => ∃ g P, e = .returned (.slice (some ⟨g, 0, none⟩) A.length A.length) ∧ (w.heap.size ≤ g ∧ Bx w' g 3 (Re.fl Re.ei P).toArray ∧ Re.Sorts A P ∧ P.length = A.length ∧ Below w.heap.size w w') := by
  obtain ⟨n, hn⟩ : ∃ n, A.length = n := ⟨_, rfl⟩
  have HN := hid hn
  have HV := hid hv
  have HW := hid hw
  rw [hn]
  rw [hn] at hl
  have HL := hid hl
  have TL : Hid ((Re.tks A).length = n) := by rw [Hid, Re.tks_len, hn]
  have M1 := Re.make_t n hl
  have M2 := Re.make_i n hl
  have ln : (n : Int) ≤ 4398046511104 := by omega
  have b1 := alloc_b w (.cells (Re.fl Re.et (List.replicate n Re.zt)).toArray 66)
  have x1 := Bx.new w 66 (Re.fl Re.et (List.replicate n Re.zt)).toArray
  have I0 : Hid (Bx (w.alloc (.cells (Re.fl Re.et (List.replicate n Re.zt)).toArray 66)) w.heap.size 66 (Re.fl Re.et (Re.fil (Re.tks A) Re.zt 0)).toArray ∧ Below w.heap.size w (w.alloc (.cells (Re.fl Re.et (List.replicate n Re.zt)).toArray 66))) := ⟨by rw [Re.fil_zero, TL.out]; exact x1, b1⟩
  clear hv hw hl hn b1 x1
  go_enter Tryz.func19, Tryz.ntmps19
  go_wp2_with fail
  generalize w.alloc (.cells (Re.fl Re.et (List.replicate n Re.zt)).toArray 66) = wa at *
  go_loopg [14] n (fun m iv wr => ∃ i : Nat, i + m = n ∧ iv = .int .i64 (i : Int) ∧ Hid (Bx wr w.heap.size 66 (Re.fl Re.et (Re.fil (Re.tks A) Re.zt i)).toArray ∧ Below w.heap.size w wr))
  case atStart => exact ⟨0, by omega, rfl, I0.out⟩
  case round =>
    obtain ⟨i, hi, rfl, I⟩ := hrel
    by_cases hlt : i < n
    · have hli : (i : Int) < (n : Int) := by omega
      obtain ⟨a, ha⟩ : ∃ a, A[i]? = some a := ⟨_, List.getElem?_eq_getElem (by have := HN.out; omega)⟩
      obtain ⟨b, off, rfl, c0, c1, c2⟩ := (HV.out.on I.out.2).at ha
      have am := HW.out a (List.mem_of_getElem? ha)
      have RK := hid (fun W => rankof_any a.k a.n a.s W am.1 am.2)
      obtain ⟨t, q, u, er⟩ := Re.er_ex (Re.rt a.k a.n a.s)
      rw [er] at RK
      have ta := Re.tks_at ha
      have ex : Re.et ⟨Re.rt a.k a.n a.s, (i : Int)⟩ = [.bool t, .int .i64 q, .string u, .int .i64 (i : Int)] := by rw [Re.et, er]; rfl
      have NX : Hid (∀ W : World, Bx W w.heap.size 66 (Re.fl Re.et (Re.fil (Re.tks A) Re.zt i)).toArray ∧ Below w.heap.size w W → Bx ((((W.setCell ⟨w.heap.size, i * 4, none⟩ (.bool t)).setCell ⟨w.heap.size, i * 4 + 1, none⟩ (.int .i64 q)).setCell ⟨w.heap.size, i * 4 + 2, none⟩ (.string u)).setCell ⟨w.heap.size, i * 4 + 3, none⟩ (.int .i64 (i : Int))) w.heap.size 66 (Re.fl Re.et (Re.fil (Re.tks A) Re.zt (i + 1))).toArray ∧ Below w.heap.size w ((((W.setCell ⟨w.heap.size, i * 4, none⟩ (.bool t)).setCell ⟨w.heap.size, i * 4 + 1, none⟩ (.int .i64 q)).setCell ⟨w.heap.size, i * 4 + 2, none⟩ (.string u)).setCell ⟨w.heap.size, i * 4 + 3, none⟩ (.int .i64 (i : Int)))) := fun W z => by
        refine ⟨?_, (((z.2.setCell (p := ⟨w.heap.size, i * 4, none⟩) (Nat.le_refl _) _).setCell (p := ⟨w.heap.size, i * 4 + 1, none⟩) (Nat.le_refl _) _).setCell (p := ⟨w.heap.size, i * 4 + 2, none⟩) (Nat.le_refl _) _).setCell (p := ⟨w.heap.size, i * 4 + 3, none⟩) (Nat.le_refl _) _⟩
        have := Re.bx_put Re.et_len (i := i) z.1 ⟨Re.rt a.k a.n a.s, (i : Int)⟩ (by rw [Re.fil_len _ _ (by have := TL.out; omega)]; have := TL.out; omega)
        rw [ex, Re.fil_set _ _ ta] at this
        exact this
      have OLD : Hid (∀ W : World, Bx W w.heap.size 66 (Re.fl Re.et (Re.fil (Re.tks A) Re.zt i)).toArray → W.cell? ⟨w.heap.size, i * 4, none⟩ = some (.bool false) ∧ W.cell? ⟨w.heap.size, i * 4 + 1, none⟩ = some (.int .i64 0) ∧ W.cell? ⟨w.heap.size, i * 4 + 2, none⟩ = some (.string ⟨#[]⟩) ∧ W.cell? ⟨w.heap.size, i * 4 + 3, none⟩ = some (.int .i64 0)) := fun W z => by
        have hz := Re.fil_at (Re.tks A) Re.zt (i := i) (by have := TL.out; omega)
        exact ⟨Re.bx_cell Re.et_len z hz 0 (by omega) _ rfl, Re.bx_cell Re.et_len z hz 1 (by omega) _ rfl, Re.bx_cell Re.et_len z hz 2 (by omega) _ rfl, Re.bx_cell Re.et_len z hz 3 (by omega) _ rfl⟩
      clear ex ta er am ha I0
      have bb := alloc_b wr (.cells #[.int .i64 a.k, .int .u64 a.n, .string a.s] 24)
      have J : Hid (Bx (wr.alloc (.cells #[.int .i64 a.k, .int .u64 a.n, .string a.s] 24)) w.heap.size 66 (Re.fl Re.et (Re.fil (Re.tks A) Re.zt i)).toArray ∧ Below w.heap.size w (wr.alloc (.cells #[.int .i64 a.k, .int .u64 a.n, .string a.s] 24))) := ⟨I.out.1.on bb, below_on I.out.2 bb⟩
      clear bb
      go_wp2_with fail
      refine (RK.out _).mono ?_
      rintro e w5 ⟨rfl, b5⟩
      have J5 := hid (And.intro (J.out.1.on b5) (below_on J.out.2 b5))
      clear b5 J RK c0 c1 c2
      obtain ⟨d0, d1, d2, d3⟩ := OLD.out _ J5.out.1
      have f0 := J5.out.1.free (i * 4)
      have f1 := J5.out.1.free (i * 4 + 1)
      have f2 := J5.out.1.free (i * 4 + 2)
      have f3 := J5.out.1.free (i * 4 + 3)
      have N5 := hid (NX.out _ J5.out)
      clear OLD NX J5
      go_wp2_with fail
      go_roundg (n - (i + 1))
      case measure => omega
      case rel => exact ⟨i + 1, by omega, by go_num, N5.out⟩
    · have hli : ¬ (i : Int) < (n : Int) := by omega
      have ein : i = n := by omega
      subst ein
      have J := hid (And.intro (show Bx wr w.heap.size 66 (Re.fl Re.et (Re.tks A)).toArray by have := I.out.1; rw [show i = (Re.tks A).length from TL.out.symm, Re.fil_all] at this; exact this) I.out.2)
      clear I I0
      have SC := hid (fun W (z : Bx W w.heap.size 66 (Re.fl Re.et (Re.tks A)).toArray) => sort_call w.heap.size (Re.tks A).toArray W z (by rw [List.size_toArray]; have := TL.out; have := HL.out; omega))
      rw [show (Re.tks A).toArray.size = i by rw [List.size_toArray]; exact TL.out] at SC
      go_wp2_with fail
      refine (SC.out _ J.out.1).mono ?_
      rintro e w3 ⟨rfl, d', hd, pm, so, k3, rg⟩
      have B3 : Below w.heap.size w w3 := J.out.2.trans (k3.below J.out.2.size (fun b e => by rw [e]; exact Nat.le_refl _))
      obtain ⟨P, hP⟩ : ∃ P, d'.toList.map (·.i) = P := ⟨_, rfl⟩
      have SO : Hid (Re.Sorts A P ∧ P.length = i) := by
        refine ⟨⟨d'.toList, pm, ?_, hP.symm⟩, by rw [← hP, List.length_map, Array.length_toList, hd]⟩
        rw [List.pairwise_iff_getElem]
        intro a b ha hb hab
        rw [Array.length_toList] at ha hb
        have := so a b hab (by omega)
        rw [getElem!_pos d' a ha, getElem!_pos d' b hb] at this
        simpa using this
      have PA : Hid (∀ j, j < i → P[j]? = some d'[j]!.i) := fun j hj => by
        rw [← hP, List.getElem?_map, Array.getElem?_toList, Array.getElem?_eq_getElem (by omega), getElem!_pos d' j (by omega)]
        rfl
      have b4 := alloc_b w3 (.cells (Re.fl Re.ei (List.replicate i 0)).toArray 3)
      have I2 : Hid (Bx (w3.alloc (.cells (Re.fl Re.ei (List.replicate i 0)).toArray 3)) w3.heap.size 3 (Re.fl Re.ei (Re.fil P 0 0)).toArray ∧ Below w.heap.size w (w3.alloc (.cells (Re.fl Re.ei (List.replicate i 0)).toArray 3)) ∧ ∀ j, j < i → (w3.alloc (.cells (Re.fl Re.ei (List.replicate i 0)).toArray 3)).rangeAt w.heap.size (j * 4) (Re.et d'[j]!)) := by
        refine ⟨?_, below_on B3 b4, fun j hj c v hv => ?_⟩
        · rw [Re.fil_zero, SO.out.2]; exact Bx.new _ _ _
        · have := rg j hj c v hv
          rw [b4.cell (cell_lt this)]; exact this
      have G2 : Hid (w.heap.size < w3.heap.size) := by
        have h1 := J.out.1.lt
        exact Nat.lt_of_lt_of_le h1 k3.size
      clear hd pm so k3 rg J SC b4 B3 hP M1
      go_wp2_with fail
      generalize w3.alloc (.cells (Re.fl Re.ei (List.replicate i 0)).toArray 3) = wb at *
      go_loopg [34] i (fun m iv wr => ∃ j : Nat, j + m = i ∧ iv = .int .i64 (j : Int) ∧ Hid (Bx wr w3.heap.size 3 (Re.fl Re.ei (Re.fil P 0 j)).toArray ∧ Below w.heap.size w wr ∧ ∀ j, j < i → wr.rangeAt w.heap.size (j * 4) (Re.et d'[j]!)))
      case atStart => exact ⟨0, by omega, rfl, I2.out⟩
      case round =>
        obtain ⟨j, hj, rfl, K⟩ := hrel
        by_cases jl : j < i
        · have jli : (j : Int) < (i : Int) := by omega
          obtain ⟨t, q, u, er⟩ := Re.er_ex d'[j]!.r
          have ex : Re.et d'[j]! = [.bool t, .int .i64 q, .string u, .int .i64 d'[j]!.i] := by rw [Re.et, er]; rfl
          have rr := K.out.2.2 j jl
          rw [ex] at rr
          have c0 := rr 0 _ rfl
          have c1 := rr 1 _ rfl
          have c2 := rr 2 _ rfl
          have c3 := rr 3 _ rfl
          rw [Nat.add_zero] at c0
          have pj := PA.out j jl
          generalize d'[j]!.i = N at *
          have bb := alloc_b wr (.cells #[.bool t, .int .i64 q, .string u, .int .i64 N] 66)
          have pz := Re.fil_at P 0 (i := j) (by have := SO.out.2; omega)
          have K1 : Bx (wr.alloc (.cells #[.bool t, .int .i64 q, .string u, .int .i64 N] 66)) w3.heap.size 3 (Re.fl Re.ei (Re.fil P 0 j)).toArray := K.out.1.on bb
          have z0 := Re.bx_cell Re.ei_len K.out.1 pz 0 (by omega) _ rfl
          rw [Nat.mul_one, Nat.add_zero] at z0
          have z1 := K.out.1.free j
          have NX : Hid (Bx ((wr.setCell ⟨w3.heap.size, j, none⟩ (.int .i64 N)).alloc (.cells #[.bool t, .int .i64 q, .string u, .int .i64 N] 66)) w3.heap.size 3 (Re.fl Re.ei (Re.fil P 0 (j + 1))).toArray ∧ Below w.heap.size w ((wr.setCell ⟨w3.heap.size, j, none⟩ (.int .i64 N)).alloc (.cells #[.bool t, .int .i64 q, .string u, .int .i64 N] 66)) ∧ ∀ j', j' < i → ((wr.setCell ⟨w3.heap.size, j, none⟩ (.int .i64 N)).alloc (.cells #[.bool t, .int .i64 q, .string u, .int .i64 N] 66)).rangeAt w.heap.size (j' * 4) (Re.et d'[j']!)) := by
            have m1 := Re.bx_put Re.ei_len (i := j) K.out.1 N (by rw [Re.fil_len _ _ (by have := SO.out.2; omega)]; have := SO.out.2; omega)
            rw [Re.fil_set _ _ pj, Nat.mul_one] at m1
            have m2 : Below w.heap.size w (wr.setCell ⟨w3.heap.size, j, none⟩ (.int .i64 N)) := K.out.2.1.setCell (p := ⟨w3.heap.size, j, none⟩) (Nat.le_of_lt G2.out) _
            have ba := alloc_b (wr.setCell ⟨w3.heap.size, j, none⟩ (.int .i64 N)) (.cells #[.bool t, .int .i64 q, .string u, .int .i64 N] 66)
            refine ⟨Bx.on m1 ba, below_on m2 ba, fun j' hj' c v hv => ?_⟩
            have h1 := K.out.2.2 j' hj' c v hv
            have h2 : (wr.setCell ⟨w3.heap.size, j, none⟩ (.int .i64 N)).cell? ⟨w.heap.size, j' * 4 + c, none⟩ = some v := by
              rw [World.cell?_setCell_far _ _ _ _ (fun e => by have := G2.out; simp only at e; omega)]; exact h1
            rw [ba.cell (cell_lt h2)]; exact h2
          have gl := K.out.1.lt
          clear er ex rr pj bb pz K1 I2
          go_wp2_with fail
          go_roundg (i - (j + 1))
          case measure => omega
          case rel => exact ⟨j + 1, by omega, by go_num, NX.out⟩
        · have jli : ¬ (j : Int) < (i : Int) := by omega
          have eji : j = i := by omega
          subst eji
          have F : Hid (Bx wr w3.heap.size 3 (Re.fl Re.ei P).toArray ∧ Below w.heap.size w wr) := ⟨by have := K.out.1; rw [show j = P.length from SO.out.2.symm, Re.fil_all] at this; exact this, K.out.2.1⟩
          clear K I2
          go_wp2_with fail
          go_ret
          first
            | exact ⟨_, rfl, P, Nat.le_of_lt G2.out, F.out.1, SO.out.1, SO.out.2, F.out.2⟩
            | exact ⟨_, rfl, Nat.le_of_lt G2.out, P, F.out.1, SO.out.1, SO.out.2, F.out.2⟩
end Go.Proofs.YtigmhnlcmhpepaaGreatDoor
