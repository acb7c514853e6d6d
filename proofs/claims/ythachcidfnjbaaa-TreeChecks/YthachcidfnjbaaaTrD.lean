/-
  tree: stands.
-/
import Derived.Test.YthachcidfnjbaaaTrC
namespace Go.Proofs.Ythachcidfnjbaaa
open Go Go.RowKit Go.Deep

theorem bx6 {w : World} {b t : Nat} {v0 v1 v2 v3 v4 v5 : Value} (h : Bx w b t #[v0, v1, v2, v3, v4, v5]) :
    (w.cell? ⟨b, 0, none⟩ = some v0 ∧ w.cell? ⟨b, 1, none⟩ = some v1 ∧ w.cell? ⟨b, 2, none⟩ = some v2 ∧ w.cell? ⟨b, 3, none⟩ = some v3 ∧ w.cell? ⟨b, 4, none⟩ = some v4 ∧ w.cell? ⟨b, 5, none⟩ = some v5) ∧
    (w.frozen? ⟨b, 0, none⟩ = false ∧ w.frozen? ⟨b, 1, none⟩ = false ∧ w.frozen? ⟨b, 2, none⟩ = false ∧ w.frozen? ⟨b, 3, none⟩ = false ∧ w.frozen? ⟨b, 4, none⟩ = false ∧ w.frozen? ⟨b, 5, none⟩ = false) := by
  simp only [Bx] at h
  refine ⟨⟨?_, ?_, ?_, ?_, ?_, ?_⟩, ⟨?_, ?_, ?_, ?_, ?_, ?_⟩⟩ <;> simp [World.cell?, World.frozen?, h]

namespace Tr
def TgOk (r : Rl) : Prop := r.target = 0 ∨ (1 ≤ r.target ∧ r.target ≤ r.least)
theorem cr_target (f : Int) : TgOk (cr f) := by
  unfold cr nth
  repeat' split
  all_goals first | exact .inl rfl | exact .inr ⟨by decide, by decide⟩
theorem tg_ite {c : Prop} [Decidable c] {a b : Rl} (ha : TgOk a) (hb : TgOk b) : TgOk (if c then a else b) := by
  split
  · exact ha
  · exact hb
theorem ru_target (k f : Int) : TgOk (ru k f) := by
  unfold ru
  iterate 13 refine tg_ite (by first | exact .inl rfl | exact .inr ⟨by decide, by decide⟩ | exact cr_target f) ?_
  exact .inl rfl
end Tr

set_option maxRecDepth 100000 in
set_option maxHeartbeats 16000000 in
theorem tstands_no (k p q n m : Int) (s : ByteArray) (mv : Value) (w : World) (h : ¬ Tr.fit ⟨k, p, q, n, m, s⟩ (Tr.ru k p)) :
    Calls Try.prog 20 #[.agg #[.int .i64 k, .int .i64 p, .int .i64 q, .int .i64 n, .int .u64 m, .string s], mv] w fun e w' => e = .returned (.bool false) ∧ Below w.heap.size w w' := by
  have RU := hid (tru_any k p q n m s)
  have FI := hid (tfits_any k p q n m s (Tr.ru k p))
  rw [decide_eq_false h] at FI
  have R := hid (Bx.new w 34 #[.int .i64 k, .int .i64 p, .int .i64 q, .int .i64 n, .int .u64 m, .string s])
  have B := hid (alloc_b w (.cells #[.int .i64 k, .int .i64 p, .int .i64 q, .int .i64 n, .int .u64 m, .string s] 34))
  clear h
  generalize Tr.ru k p = r at *
  go_enter Try.func20, Try.ntmps20
  go_wp2_with (first
    | (go_at_call 24; refine (RU.out _).mono ?_; rintro e w2 ⟨rfl, hB⟩; have R2 : Bx w2 w.heap.size 34 _ := Bx.on R.out hB; obtain ⟨⟨c0, c1, c2, c3, c4, c5⟩, ⟨f0, f1, f2, f3, f4, f5⟩⟩ := bx6 R2; have K := hid (And.intro R2 (below_on B.out hB)); have lt2 : w.heap.size < w2.heap.size := R2.lt; clear hB R2; simp only [Tr.er])
    | (go_at_call 25; refine (FI.out _).mono ?_; rintro e w3 ⟨rfl, hB3⟩))
  go_ret
  exact ⟨rfl, below_on (below_on K.out.2 (alloc_b _ _)) hB3⟩

set_option maxRecDepth 100000 in
set_option maxHeartbeats 4000000 in
theorem tstands_yes {base : Nat} (k p q n m : Int) (s : ByteArray) (mv : Value) (R : List (Int × Int)) (w : World) (h : Tr.fit ⟨k, p, q, n, m, s⟩ (Tr.ru k p)) (ho : Re.Ow Tr.es 50 2 base w mv R) (hl : R.length ≤ 10000) :
    Calls Try.prog 20 #[.agg #[.int .i64 k, .int .i64 p, .int .i64 q, .int .i64 n, .int .u64 m, .string s], mv] w fun e w' => e = .returned (.bool (decide (n ≤ R.length ∧ ((Tr.ru k p).target = 0 ∨ Tr.isT (R.getD (R.length - n.toNat + ((Tr.ru k p).target.toNat - 1)) (0, 0)).1)))) ∧ Below w.heap.size w w' := by
  have RU := hid (tru_any k p q n m s)
  have FI := hid (tfits_any k p q n m s (Tr.ru k p))
  rw [decide_eq_true h] at FI
  have R0 := hid (Bx.new w 34 #[.int .i64 k, .int .i64 p, .int .i64 q, .int .i64 n, .int .u64 m, .string s])
  have B := hid (alloc_b w (.cells #[.int .i64 k, .int .i64 p, .int .i64 q, .int .i64 n, .int .u64 m, .string s] 34))
  have tg := Tr.ru_target k p
  have n0 : (Tr.ru k p).least ≤ n := h.2.2.2.2.1
  clear h
  generalize Tr.ru k p = r at *
  have hsh : ∃ pp cap, mv = .slice pp R.length cap := by
    rcases ho.shape with ⟨cap, e, z⟩ | ⟨g, cap, e, _⟩
    · exact ⟨none, cap, by rw [e, z]; rfl⟩
    · exact ⟨_, cap, e⟩
  obtain ⟨pp, cap, rfl⟩ := hsh
  obtain ⟨L, hL⟩ : ∃ L, R.length = L := ⟨_, rfl⟩
  obtain ⟨R1, R2, R3, R4, R5, R6, R7⟩ := r
  simp only [Tr.TgOk] at RU FI tg n0 ⊢
  have HO := hid ho
  clear ho
  rw [hL] at hl ⊢
  have hli : (L : Int) ≤ 10000 := by omega
  have D : ∀ z : Bool, ((n ≤ (L : Int) ∧ (R7 = 0 ∨ Tr.isT (R.getD (L - n.toNat + (R7.toNat - 1)) (0, 0)).1)) ↔ z = true) → decide (n ≤ (L : Int) ∧ (R7 = 0 ∨ Tr.isT (R.getD (L - n.toNat + (R7.toNat - 1)) (0, 0)).1)) = z := fun z hz => by
    cases z with
    | true => exact decide_eq_true (hz.2 rfl)
    | false => exact decide_eq_false (fun y => Bool.false_ne_true (hz.1 y))
  generalize decide (n ≤ (L : Int) ∧ (R7 = 0 ∨ Tr.isT (R.getD (L - n.toNat + (R7.toNat - 1)) (0, 0)).1)) = RR at *
  by_cases h1 : n ≤ L
  · by_cases h2 : R7 = 0
    · have e := D true ⟨fun _ => rfl, fun _ => ⟨h1, .inl h2⟩⟩
      subst e h2
      clear tg n0 D HO hL hl
      go_enter Try.func20, Try.ntmps20
      go_wp2_with (first
        | (go_at_call 24; refine (RU.out _).mono ?_; rintro e w2 ⟨rfl, hB⟩; have Q2 : Bx w2 w.heap.size 34 _ := Bx.on R0.out hB; obtain ⟨⟨c0, c1, c2, c3, c4, c5⟩, -⟩ := bx6 Q2; have K := hid (And.intro Q2 (below_on B.out hB)); have lt2 : w.heap.size < w2.heap.size := Q2.lt; clear hB Q2; simp only [Tr.er])
        | (go_at_call 25; refine (FI.out _).mono ?_; rintro e w3 ⟨rfl, hB3⟩; have HB3 := hid (below_on (alloc_b _ _) hB3); have N3 := Bx.on K.out.1 HB3.out; have M3 := Bx.on (Bx.new w2 53 #[.int .i64 R1, .int .i64 R2, .int .i64 R3, .int .i64 R4, .bool R5, .bool R6, .int .i64 0]) hB3; obtain ⟨⟨-, -, -, d3, -, -⟩, -⟩ := bx6 N3; obtain ⟨⟨-, -, -, -, -, -, d6⟩, -⟩ := bx7 M3; clear hB3 N3 M3))
      go_ret
      exact ⟨rfl, below_on K.out.2 HB3.out⟩
    · have t1 : 1 ≤ R7 ∧ R7 ≤ R3 := by rcases tg with z | z; exact absurd z h2; exact z
      obtain ⟨j, hj⟩ : ∃ j, L - n.toNat + (R7.toNat - 1) = j := ⟨_, rfl⟩
      have ej : (L : Int) - n + R7 - 1 = (j : Int) := by omega
      have jl : j < R.length := by omega
      obtain ⟨a, ha⟩ : ∃ a, R[j]? = some a := ⟨_, List.getElem?_eq_getElem jl⟩
      have eg : R.getD j (0, 0) = a := by rw [List.getD_eq_getElem?_getD, ha]; rfl
      have jl2 : (j : Int) < (L : Int) := by omega
      have e := D (decide (Tr.isT a.1)) (by rw [hj, eg]; simp [h1, h2])
      subst e
      have hp : ∃ g, pp = some ⟨g, 0, none⟩ := by
        rcases HO.out.shape with ⟨_, _, z⟩ | ⟨g, c, z, _⟩
        · rw [z] at jl; simp at jl
        · simp only [Value.slice.injEq] at z; exact ⟨g, z.1⟩
      obtain ⟨g, rfl⟩ := hp
      have CL : Hid (∀ W, Below w.heap.size w W → W.cell? ⟨g, j * 2, none⟩ = some (.int .i64 a.1)) := fun W hW => (HO.out.below hW).cell Tr.es_len ha 0 (by omega) _ rfl
      have b1 : (L : Int) - n ≤ 10000 := by omega
      have b2 : 0 ≤ (L : Int) - n := by omega
      have b3 : 1 ≤ R7 := t1.1
      have b4 : R7 ≤ 10000 := by omega
      obtain ⟨a1, a2⟩ := a
      simp only at CL ⊢
      have IT := hid (tist_any a1)
      generalize decide (Tr.isT a1) = it at *
      clear tg D HO hL hl eg ha jl t1 n0 hj
      go_enter Try.func20, Try.ntmps20
      go_wp2_with (first
        | (go_at_call 26; refine (IT.out _).mono ?_; rintro e w4 ⟨rfl, rfl⟩)
        | (go_at_call 24; refine (RU.out _).mono ?_; rintro e w2 ⟨rfl, hB⟩; have Q2 : Bx w2 w.heap.size 34 _ := Bx.on R0.out hB; obtain ⟨⟨c0, c1, c2, c3, c4, c5⟩, -⟩ := bx6 Q2; have K := hid (And.intro Q2 (below_on B.out hB)); have lt2 : w.heap.size < w2.heap.size := Q2.lt; clear hB Q2; simp only [Tr.er])
        | (go_at_call 25; refine (FI.out _).mono ?_; rintro e w3 ⟨rfl, hB3⟩; have HB3 := hid (below_on (alloc_b _ _) hB3); have N3 := Bx.on K.out.1 HB3.out; have M3 := Bx.on (Bx.new w2 53 #[.int .i64 R1, .int .i64 R2, .int .i64 R3, .int .i64 R4, .bool R5, .bool R6, .int .i64 R7]) hB3; obtain ⟨⟨-, -, -, d3, -, -⟩, -⟩ := bx6 N3; obtain ⟨⟨-, -, -, -, -, -, d6⟩, -⟩ := bx7 M3; have dc := CL.out w3 (below_on K.out.2 HB3.out); clear hB3 N3 M3))
      go_ret
      refine ⟨?_, below_on K.out.2 HB3.out⟩
      show Ending.returned (.bool (R7 == 0 || it)) = Ending.returned (.bool it)
      rw [beq_false_of_ne h2]
      rfl
  · have e := D false ⟨fun y => absurd y.1 h1, fun y => by cases y⟩
    subst e
    clear tg n0 D HO hL hl
    go_enter Try.func20, Try.ntmps20
    go_wp2_with (first
      | (go_at_call 24; refine (RU.out _).mono ?_; rintro e w2 ⟨rfl, hB⟩; have Q2 : Bx w2 w.heap.size 34 _ := Bx.on R0.out hB; obtain ⟨⟨c0, c1, c2, c3, c4, c5⟩, -⟩ := bx6 Q2; have K := hid (And.intro Q2 (below_on B.out hB)); have lt2 : w.heap.size < w2.heap.size := Q2.lt; clear hB Q2; simp only [Tr.er])
      | (go_at_call 25; refine (FI.out _).mono ?_; rintro e w3 ⟨rfl, hB3⟩; have HB3 := hid (below_on (alloc_b _ _) hB3); have N3 := Bx.on K.out.1 HB3.out; have M3 := Bx.on (Bx.new w2 53 #[.int .i64 R1, .int .i64 R2, .int .i64 R3, .int .i64 R4, .bool R5, .bool R6, .int .i64 R7]) hB3; obtain ⟨⟨-, -, -, d3, -, -⟩, -⟩ := bx6 N3; obtain ⟨⟨-, -, -, -, -, -, d6⟩, -⟩ := bx7 M3; clear hB3 N3 M3))
    go_ret
    exact ⟨rfl, below_on K.out.2 HB3.out⟩

theorem tstands_any {base : Nat} (x : Tr.Nd) (mv : Value) (R : List (Int × Int)) (w : World) (ho : Re.Ow Tr.es 50 2 base w mv R) (hl : R.length ≤ 10000) :
    Calls Try.prog 20 #[.agg #[.int .i64 x.kind, .int .i64 x.op, .int .i64 x.ref, .int .i64 x.n, .int .u64 x.num, .string x.str], mv] w fun e w' => e = .returned (.bool (decide (Tr.st x R))) ∧ Below w.heap.size w w' := by
  by_cases h : Tr.fit x (Tr.ru x.kind x.op)
  · have e : decide (Tr.st x R) = decide (x.n ≤ R.length ∧ ((Tr.ru x.kind x.op).target = 0 ∨ Tr.isT (R.getD (R.length - x.n.toNat + ((Tr.ru x.kind x.op).target.toNat - 1)) (0, 0)).1)) := decide_eq_decide.2 ⟨fun q => q.2, fun q => ⟨h, q⟩⟩
    rw [e]
    exact tstands_yes x.kind x.op x.ref x.n x.num x.str mv R w h ho hl
  · rw [decide_eq_false (show ¬ Tr.st x R from fun q => h q.1)]
    exact tstands_no x.kind x.op x.ref x.n x.num x.str mv w h
end Go.Proofs.Ythachcidfnjbaaa
