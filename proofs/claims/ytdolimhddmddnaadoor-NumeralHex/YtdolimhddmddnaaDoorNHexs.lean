/-
  Texts put together: NHexNum, NPush, NHex.
-/
import Derived.Test.YtdolimhddmddnaaDoorNums
import Derived.Test.YtdolimhddmddnaaDoorNMem
import Derived.Laws.AppendOwn
import Derived.Laws.OwnMore
import Derived.Test.YtdolimhddmddnaaDoorNBack
namespace Go.Proofs.YtdolimhddmddnaaDoor
namespace Dn
open Go.Proofs.YtdolimhddmddnaaDoor.Nm

theorem part_at (zs : List Int) (i k r s : Nat) (hi : i = 64 * k + r) (hr : r + s ≤ 64) (hz : Limbs zs) (hk : k < zs.length) : val zs / 2 ^ i % 2 ^ s = zs.getD k 0 / 2 ^ r % 2 ^ s := by
  have hd := val_drop zs k (by omega)
  have hb := val_bd _ (hz.take k)
  rw [List.length_take, Nat.min_eq_left (by omega)] at hb
  have e2 : val (zs.drop k) = zs.getD k 0 + 18446744073709551616 * val (zs.drop (k + 1)) := by
    rw [List.drop_eq_getElem_cons hk, val]
    simp [List.getD, hk]
  have hp := pw_pos k
  have e1 : val zs / pw k = val (zs.drop k) := by
    rw [hd, Int.add_mul_ediv_left _ _ (by omega), Int.ediv_eq_zero_of_lt hb.1 hb.2, Int.zero_add]
  rw [hi, two_add, ← pw_two, ← Int.ediv_ediv_of_nonneg (by omega), e1, e2]
  have e3 : (18446744073709551616 : Int) = 2 ^ r * (2 ^ s * 2 ^ (64 - r - s)) := by
    rw [← two_add, ← two_add, show r + (s + (64 - r - s)) = 64 by omega, two_64]
  rw [e3, Int.mul_assoc, Int.add_mul_ediv_left _ _ (by have := two_pos r; omega), Int.mul_assoc, Int.add_mul_emod_self_left]

theorem strip_snoc (ds : List Int) (d : Int) : strip (ds ++ [d]) = if strip ds = [] ∧ d = 0 then [] else strip ds ++ [d] := by
  unfold strip
  induction ds with
  | nil => by_cases h : d = 0 <;> simp [h]
  | cons y ys ih =>
    by_cases h : y = 0
    · simpa [h] using ih
    · simp [h]

/-- The digits above the place q, without zeros at the head. -/
def dAt (B V : Int) (N q : Nat) : List Int := strip (dg B (N - q) (V / B ^ q))

theorem dAt_top (B V : Int) (N : Nat) : dAt B V N N = [] := by
  unfold dAt
  rw [Nat.sub_self]
  rfl

theorem dAt_low (B V : Int) (N : Nat) : dAt B V N 0 = strip (dg B N V) := by
  unfold dAt
  rw [Nat.sub_zero, Int.pow_zero, Int.ediv_one]

theorem dAt_step {B : Int} (hB : 0 < B) (V : Int) (N q : Nat) (hq : q + 1 ≤ N) : dAt B V N q = if dAt B V N (q + 1) = [] ∧ V / B ^ q % B = 0 then [] else dAt B V N (q + 1) ++ [V / B ^ q % B] := by
  have e : V / B ^ q / B = V / B ^ (q + 1) := by rw [Int.pow_succ, Int.ediv_ediv_of_nonneg (Int.le_of_lt (Int.pow_pos hB))]
  unfold dAt
  rw [show N - q = N - (q + 1) + 1 by omega, dg, e, strip_snoc]

theorem dAt_len (B V : Int) (N q : Nat) : (dAt B V N q).length ≤ N := by
  have := (List.dropWhile_sublist (fun d : Int => decide (d = 0)) (l := dg B (N - q) (V / B ^ q))).length_le
  rw [dg_length] at this
  unfold dAt strip
  omega
end Dn
end Go.Proofs.YtdolimhddmddnaaDoor

namespace Go.Proofs.YtdolimhddmddnaaDoor
open Go.RowKit Go.Deep

theorem wpList_append_b {ty : TypeId} {ops : Array Oper} {rest : List Oper} {o : Oper} {a : Act} {Q : Exit → Act → World → Prop} (hgd : o.guard = none) (s x : Operand)
    (ho : o.op = .call { callee := .builtin .append, args := #[s, x], argTypes := #[ty, ty] }) {v y v' : Value} {w w' : World} (hr : (Builtin.append_ #[ty, ty] o.type #[v, y]).run Tryd.prog w = .ok v' w') (hs : a.eval s = v) (hx : a.eval x = y)
    (h : wpList Tryd.prog ops Q rest (a.put o.dst v') w') : wpList Tryd.prog ops Q (o :: rest) a w := by
  refine wpList_plain hgd fun K hK => ?_
  unfold Oper.wp execOp
  simp only [ho, resolve, invoke, builtin, Sem.run_bind, Sem.run_pure, Result.andThen_ok, List.map_toArray, List.map_cons, List.map_nil, hs, hx, hr]
  exact hK _ _ h

/-- The bytes, in a block of our own from base on. -/
def Row8 (base : Nat) (w : World) (mv : Value) (xs : List Int) : Prop := w.ownsRow base 5 1 mv xs.length (xs.map (Value.int .u8))

theorem Row8.below {base : Nat} {w w' : World} {mv : Value} {xs : List Int} (h : Row8 base w mv xs) (hb : Below w.heap.size w w') : Row8 base w' mv xs :=
  World.ownsRow.kept (row := none) h ⟨hb.os, hb.tape, hb.output, hb.size, fun j hj _ => hb.block j hj⟩ (by cases h : Value.ownBlock mv <;> simp)

theorem Row8.push {base : Nat} {w : World} {mv : Value} {xs : List Int} (ho : Row8 base w mv xs) (x : Int) (hn : xs.length < 140737488351232) (hb : base ≤ w.heap.size) :
    ∃ mv' w', (Builtin.append_ #[35, 35] 35 #[mv, .slice (some ⟨w.heap.size, 0, none⟩) 1 1]).run Tryd.prog (w.alloc (.cells #[.int .u8 x] 5)) = .ok mv' w' ∧ Row8 base w' mv' (xs ++ [x]) ∧ w.heap.size ≤ w'.heap.size ∧
      Below base w w' ∧ (∀ j, j < w.heap.size → some j ≠ mv.ownBlock → w'.heap[j]? = w.heap[j]?) := by
  obtain ⟨i, hi, hz⟩ := Option.map_eq_some_iff.1 info8
  simp only [Prod.mk.injEq] at hz
  obtain ⟨z1, z2, z3⟩ := hz
  have bm : Below w.heap.size w (w.alloc (.cells #[.int .u8 x] 5)) := (Below.refl _ _).alloc (Nat.le_refl _) _
  have hs : (w.alloc (.cells #[.int .u8 x] 5)).heap.size = w.heap.size + 1 := World.size_alloc _ _
  have ho' := World.ownsRow.alloc ho (.cells #[.int .u8 x] 5)
  have hcell : (w.alloc (.cells #[.int .u8 x] 5)).cell? ⟨w.heap.size, 0, none⟩ = some (.int .u8 x) :=
    (OwnB.alloc w [x]).cell 0 (by simp)
  obtain ⟨v', w', hr, h1, h2, _⟩ := run_append_own (P := Tryd.prog) (w.alloc (.cells #[.int .u8 x] 5)) base 35 35 5 i (.int .u8 0) 1 1 Tryd.underlying35 hi z1 z2 z3 rfl (by omega) mv xs.length (xs.map (Value.int .u8)) ho'
    ⟨w.heap.size, 0, none⟩ 1 1 [.int .u8 x] rfl (fun j u hu => by
      cases j with
      | zero =>
        simp at hu
        subst hu
        rw [Go.WideShapes.add_plain]
        exact hcell
      | succ j => simp at hu) (fun u hu => by simp at hu; subst hu; rfl) (by simp only [maxLen]; omega) (by omega) (by rw [hs]; omega)
  refine ⟨v', w', hr, by simpa [Row8] using h1, by have := h2.size; omega, ?_, fun j hj hne => ?_⟩
  · have hb2 : Below base (w.alloc (.cells #[.int .u8 x] 5)) w' := by
      refine ⟨h2.os, h2.tape, h2.output, h2.size, fun j hj => h2.block j (by rw [hs]; omega) ?_⟩
      intro hk
      have := (ho'.lt j hk.symm).1
      omega
    exact (bm.mono hb).trans hb2
  · rw [h2.block j (by rw [hs]; omega) hne]
    exact bm.block j hj

/-- The row's shape. -/
theorem Row8.shape {base : Nat} {w : World} {mv : Value} {xs : List Int} (h : Row8 base w mv xs) : ∃ pm cp, mv = .slice pm xs.length cp := by
  rcases h.2 with ⟨rfl, h0⟩ | ⟨g, cp, cur, rfl, _⟩
  · exact ⟨none, 0, by rw [h0]⟩
  · exact ⟨_, cp, rfl⟩

/-- string(b) of such a row that has an address. -/
theorem Row8.cells {base : Nat} {w : World} {mv : Value} {xs : List Int} (h : Row8 base w mv xs) (h0 : xs ≠ []) : ∃ g cp, mv = .slice (some ⟨g, 0, none⟩) xs.length cp ∧ ∀ i, i < xs.length → w.cell? ⟨g, 0 + i, none⟩ = some (.int .u8 (xs.getD i 0)) := by
  rcases h.2 with ⟨rfl, hn⟩ | ⟨g, cp, cur, rfl, _⟩
  · exact absurd (List.eq_nil_of_length_eq_zero hn) h0
  · refine ⟨g, cp, rfl, fun i hi => ?_⟩
    have := World.ownsRow.cells h (g := g) rfl i (.int .u8 (xs.getD i 0)) (by simp [List.getD, hi])
    rw [Go.WideShapes.add_plain] at this
    exact this
end Go.Proofs.YtdolimhddmddnaaDoor

namespace Go.Proofs.YtdolimhddmddnaaDoor
open Go.RowKit Go.Deep

theorem Row8.move {base : Nat} {w w' : World} {mv : Value} {xs : List Int} (h : Row8 base w mv xs) (hk : ∀ g, mv.ownBlock = some g → w'.heap[g]? = w.heap[g]?) : Row8 base w' mv xs := by
  refine ⟨h.1, ?_⟩
  rcases h.2 with h0 | ⟨g, cap, cur, rfl, h1, h2, h3⟩
  · exact .inl h0
  · exact .inr ⟨g, cap, cur, rfl, h1, by rw [hk g rfl]; exact h2, h3⟩

/-- Behind an append the row lies where it lay, or in a new block. -/
theorem Row8.place {base : Nat} {w : World} {mv : Value} {xs : List Int} (ho : Row8 base w mv xs) (x : Int) (hn : xs.length ≤ 300000) {mv' : Value} {w' : World}
    (hr : (Builtin.append_ #[35, 35] 35 #[mv, .slice (some ⟨w.heap.size, 0, none⟩) 1 1]).run Tryd.prog (w.alloc (.cells #[.int .u8 x] 5)) = .ok mv' w') : ∀ k, mv'.ownBlock = some k → mv.ownBlock = some k ∨ w.heap.size ≤ k := by
  obtain ⟨i, hi, hz⟩ := Option.map_eq_some_iff.1 info8
  simp only [Prod.mk.injEq] at hz
  obtain ⟨z1, z2, z3⟩ := hz
  have hs : (w.alloc (.cells #[.int .u8 x] 5)).heap.size = w.heap.size + 1 := World.size_alloc _ _
  have ho' := World.ownsRow.alloc ho (.cells #[.int .u8 x] 5)
  have hcell : (w.alloc (.cells #[.int .u8 x] 5)).cell? ⟨w.heap.size, 0, none⟩ = some (.int .u8 x) :=
    (OwnB.alloc w [x]).cell 0 (by simp)
  have hnews : ∀ j u, [Value.int .u8 x][j]? = some u → (w.alloc (.cells #[.int .u8 x] 5)).cell? ((⟨w.heap.size, 0, none⟩ : Addr).add j) = some u := fun j u hu => by
    cases j with
    | zero =>
      simp at hu
      subst hu
      rw [Go.WideShapes.add_plain]
      exact hcell
    | succ j => simp at hu
  have h1v : ∀ u ∈ [Value.int .u8 x], u.oneCell' = true := fun u hu => by simp at hu; subst hu; rfl
  intro k hk
  rcases ho'.2 with ⟨rfl, h0⟩ | ⟨g, cap, cur, rfl, _, hcur, hnc, hcm, hcs, htk⟩
  · right
    have hr2 := run_append_nil (P := Tryd.prog) (w.alloc (.cells #[.int .u8 x] 5)) 35 35 5 i (.int .u8 0) Tryd.underlying35 hi z1 ⟨w.heap.size, 0, none⟩ 1 1 [.int .u8 x] (by rw [z2]; rfl) hnews (by omega) (by omega) (by rw [z3]; omega)
    rw [hr] at hr2
    simp only [Result.ok.injEq] at hr2
    obtain ⟨rfl, _⟩ := hr2
    simp only [Value.ownBlock, Option.some.injEq] at hk
    omega
  · by_cases hroom : xs.length + 1 ≤ cap
    · left
      have hr2 := run_append_room (P := Tryd.prog) (w.alloc (.cells #[.int .u8 x] 5)) 35 35 5 i Tryd.underlying35 hi g xs.length cap cur hcur ⟨w.heap.size, 0, none⟩ 1 1 [.int .u8 x] (by rw [z2]; rfl) hnews h1v hroom (by rw [z2, hcs]; simp; omega)
      rw [hr] at hr2
      simp only [Result.ok.injEq] at hr2
      obtain ⟨rfl, _⟩ := hr2
      simpa [Value.ownBlock] using hk
    · right
      have holds : ∀ j u, (xs.map (Value.int .u8))[j]? = some u → (w.alloc (.cells #[.int .u8 x] 5)).cell? ((⟨g, 0, none⟩ : Addr).add j) = some u := ho'.cells (g := g) rfl
      have hr2 := run_append_grow (P := Tryd.prog) (w.alloc (.cells #[.int .u8 x] 5)) 35 35 5 i (.int .u8 0) Tryd.underlying35 hi z1 ⟨g, 0, none⟩ xs.length cap (xs.map (Value.int .u8)) (by rw [z2]; exact ho.1) holds ⟨w.heap.size, 0, none⟩ 1 1 [.int .u8 x] (by rw [z2]; rfl) hnews (by omega) (by omega) (growslice_fits (by omega) (by rw [z3]; omega))
      rw [hr] at hr2
      simp only [Result.ok.injEq] at hr2
      obtain ⟨rfl, _⟩ := hr2
      simp only [Value.ownBlock, Option.some.injEq] at hk
      omega

/-- Duo rows, on the way: the digits above the places h (of four bits) and q (of one). -/
structure Duo (base T : Nat) (V : Int) (ph : Option Addr) (lh ch : Nat) (pt : Option Addr) (lt ct h q : Nat) (w0 w : World) : Prop where
  hex : Row8 base w (.slice ph lh ch) (lets capL (Dn.dAt 16 V (16 * T) h))
  two : Row8 base w (.slice pt lt ct) (lets smallL (Dn.dAt 2 V (64 * T) q))
  ne : (Value.slice ph lh ch).ownBlock ≠ (Value.slice pt lt ct).ownBlock ∨ (Value.slice ph lh ch).ownBlock = none
  bel : Below base w0 w

theorem lets_len (lt ds : List Int) : (lets lt ds).length = ds.length := by simp [lets]
theorem lets_snoc (lt ds : List Int) (d : Int) : lets lt (ds ++ [d]) = lets lt ds ++ [lt.getD d.toNat 0] := by simp [lets]

theorem Row8.len {base : Nat} {w : World} {p : Option Addr} {l c : Nat} {xs : List Int} (h : Row8 base w (.slice p l c) xs) : xs.length = l := by
  obtain ⟨pm, cp, e⟩ := h.shape
  simp only [Value.slice.injEq] at e
  exact e.2.1.symm

theorem Row8.blk {base : Nat} {w : World} {mv : Value} {xs : List Int} (h : Row8 base w mv xs) {g : Nat} (hg : mv.ownBlock = some g) : g < w.heap.size := (World.ownsRow.lt h g hg).2

/-- One bit more. -/
theorem Duo.bit {base T : Nat} {V : Int} {ph : Option Addr} {lh ch : Nat} {pt : Option Addr} {lt ct h q : Nat} {w0 w : World} (I : Duo base T V ph lh ch pt lt ct h (q + 1) w0 w) (hT : T ≤ 4096) (hq : q + 1 ≤ 64 * T) (hb : base ≤ w.heap.size) {b : Int} (hv : V / 2 ^ q % 2 = b) (hc : b ≠ 0 ∨ 0 < lt) (h0 : 0 ≤ b) (h1 : b < 2) {x : Int} (hx : x = 48 + b) :
    ∃ pt' lt' ct' w', (Builtin.append_ #[35, 35] 35 #[.slice pt lt ct, .slice (some ⟨w.heap.size, 0, none⟩) 1 1]).run Tryd.prog (w.alloc (.cells #[.int .u8 x] 5)) = .ok (.slice pt' lt' ct') w' ∧ Duo base T V ph lh ch pt' lt' ct' h q w0 w' ∧ base ≤ w'.heap.size := by
  have hl := I.two.len
  rw [lets_len] at hl
  have hlen := Dn.dAt_len 2 V (64 * T) (q + 1)
  obtain ⟨mv', w', ap, r', z', b', k'⟩ := I.two.push x (by rw [lets_len]; omega) hb
  have pl := I.two.place x (by rw [lets_len]; omega) ap
  have e0 : Dn.dAt 2 V (64 * T) q = Dn.dAt 2 V (64 * T) (q + 1) ++ [b] := by
    rw [Dn.dAt_step (by omega) V (64 * T) q hq, hv, if_neg]
    rintro ⟨c1, c2⟩
    rcases hc with c | c
    · exact c c2
    · rw [c1] at hl; simp at hl; omega
  have e1 : lets smallL (Dn.dAt 2 V (64 * T) (q + 1)) ++ [x] = lets smallL (Dn.dAt 2 V (64 * T) q) := by
    rw [e0, lets_snoc, hx]
    rcases (show b = 0 ∨ b = 1 by omega) with c | c <;> subst c <;> rfl
  rw [e1] at r'
  obtain ⟨pt', ct', hmv⟩ := r'.shape
  subst hmv
  refine ⟨pt', _, ct', w', ap, ⟨I.hex.move (fun g hg => k' g (I.hex.blk hg) (fun c => ?_)), r', ?_, I.bel.trans b'⟩, by omega⟩
  · rcases I.ne with n | n
    · exact n (by rw [hg, c])
    · rw [n] at hg; cases hg
  · rcases hh : (Value.slice ph lh ch).ownBlock with _ | g
    · exact .inr rfl
    · left
      intro c
      rcases pl g c.symm with d | d
      · rcases I.ne with n | n
        · exact n (by rw [hh, d])
        · rw [n] at hh; cases hh
      · have := I.hex.blk hh
        omega

/-- A zero at the head is left out. -/
theorem Duo.skip {base T : Nat} {V : Int} {ph : Option Addr} {lh ch : Nat} {pt : Option Addr} {ct h q : Nat} {w0 w : World} (I : Duo base T V ph lh ch pt 0 ct h (q + 1) w0 w) (hq : q + 1 ≤ 64 * T) (hv : V / 2 ^ q % 2 = 0) : Duo base T V ph lh ch pt 0 ct h q w0 w := by
  have hl := I.two.len
  rw [lets_len] at hl
  have e1 := List.eq_nil_of_length_eq_zero hl
  have e0 : Dn.dAt 2 V (64 * T) q = [] := by rw [Dn.dAt_step (by omega) V (64 * T) q hq, if_pos ⟨e1, hv⟩]
  refine ⟨I.hex, ?_, I.ne, I.bel⟩
  rw [e0]
  have := I.two
  rw [e1] at this
  exact this

/-- Four bits more. -/
theorem Duo.four {base T : Nat} {V : Int} {ph : Option Addr} {lh ch : Nat} {pt : Option Addr} {lt ct h q : Nat} {w0 w : World} (I : Duo base T V ph lh ch pt lt ct (h + 1) q w0 w) (hT : T ≤ 4096) (hq : h + 1 ≤ 16 * T) (hb : base ≤ w.heap.size) {d : Int} (hv : V / 16 ^ h % 16 = d) (hc : d ≠ 0 ∨ 0 < lh) {x : Int} (hx : x = capL.getD d.toNat 0) :
    ∃ ph' lh' ch' w', (Builtin.append_ #[35, 35] 35 #[.slice ph lh ch, .slice (some ⟨w.heap.size, 0, none⟩) 1 1]).run Tryd.prog (w.alloc (.cells #[.int .u8 x] 5)) = .ok (.slice ph' lh' ch') w' ∧ Duo base T V ph' lh' ch' pt lt ct h q w0 w' ∧ base ≤ w'.heap.size := by
  have hl := I.hex.len
  rw [lets_len] at hl
  have hlen := Dn.dAt_len 16 V (16 * T) (h + 1)
  obtain ⟨mv', w', ap, r', z', b', k'⟩ := I.hex.push x (by rw [lets_len]; omega) hb
  have pl := I.hex.place x (by rw [lets_len]; omega) ap
  have e0 : Dn.dAt 16 V (16 * T) h = Dn.dAt 16 V (16 * T) (h + 1) ++ [d] := by
    rw [Dn.dAt_step (by omega) V (16 * T) h hq, hv, if_neg]
    rintro ⟨c1, c2⟩
    rcases hc with c | c
    · exact c c2
    · rw [c1] at hl; simp at hl; omega
  rw [hx, ← lets_snoc, ← e0] at r'
  obtain ⟨ph', ch', hmv⟩ := r'.shape
  subst hmv
  refine ⟨ph', _, ch', w', ap, ⟨r', I.two.move (fun g hg => k' g (I.two.blk hg) (fun c => ?_)), ?_, I.bel.trans b'⟩, by omega⟩
  · rcases I.ne with n | n
    · exact n (by rw [← c, hg])
    · rw [n] at c; cases c
  · rcases hh : (Value.slice pt lt ct).ownBlock with _ | g
    · by_cases hn : (Value.slice ph' (lets capL (Dn.dAt 16 V (16 * T) h)).length ch').ownBlock = none
      · exact .inr hn
      · exact .inl hn
    · left
      intro c
      rcases pl g c with d | d
      · rcases I.ne with n | n
        · exact n (by rw [hh, d])
        · rw [n] at d; cases d
      · have := I.two.blk hh
        omega

theorem Duo.skip4 {base T : Nat} {V : Int} {ph : Option Addr} {ch : Nat} {pt : Option Addr} {lt ct h q : Nat} {w0 w : World} (I : Duo base T V ph 0 ch pt lt ct (h + 1) q w0 w) (hq : h + 1 ≤ 16 * T) (hv : V / 16 ^ h % 16 = 0) : Duo base T V ph 0 ch pt lt ct h q w0 w := by
  have hl := I.hex.len
  rw [lets_len] at hl
  have e1 := List.eq_nil_of_length_eq_zero hl
  have e0 : Dn.dAt 16 V (16 * T) h = [] := by rw [Dn.dAt_step (by omega) V (16 * T) h hq, if_pos ⟨e1, hv⟩]
  refine ⟨?_, I.two, I.ne, I.bel⟩
  rw [e0]
  have := I.hex
  rw [e1] at this
  exact this
end Go.Proofs.YtdolimhddmddnaaDoor
