/-
  Texts put together: CdRk, CdRq, CdRs.
-/
import Derived.Test.YtnobafmleellhaaDoorCdRj
import Derived.Test.YtnobafmleellhaaDoorCdU
import Derived.Test.YtnobafmleellhaaDoorCdRo
namespace Go.Proofs.YtnobafmleellhaaDoor
open Go Go.RowKit Go.Deep Go.Shelf

namespace Cd
def ebb (c : UInt8) : List Value := [.int .u8 (c.toNat : Int)]
theorem ebb_len (c : UInt8) : (ebb c).length = 1 := rfl
theorem ebb_one (c : UInt8) : ∀ v ∈ ebb c, v.oneCell' = true := fun v hv => by
  simp only [ebb, List.mem_cons, List.not_mem_nil, or_false] at hv
  rw [hv]; rfl
theorem Ow_cat {α : Type} {enc : α → List Value} {k bytes base : Nat} (hk : ∀ x, (enc x).length = k) (h1 : ∀ x, ∀ v ∈ enc x, v.oneCell' = true) (k0 : 0 < k) (t e : TypeId) (i : TypeInfo) (z : Value) (ht : Tryd.prog.underlying t = some (.slice e)) (hi : Tryd.prog.info? e = some i) (hz : i.zero = some z) (hs : i.size = k) (hy : i.bytes = bytes) (zc : z.cells.size = k)
    {w : World} {mv : Value} {D E : List α} (ho : Re.Ow enc e k base w mv D) (x : Addr) (c : Nat) (hsrc : ∀ j u, (Re.fl enc E)[j]? = some u → w.cell? (x.add j) = some u) (hn : (D.length + E.length) * bytes ≤ 140737488351232) (hm : D.length + E.length ≤ 140737488351232) (hb : base ≤ w.heap.size) :
    ∃ mv' w', (Builtin.append_ #[t, t] t #[mv, .slice (some x) E.length c]).run Tryd.prog w = .ok mv' w' ∧ Re.Ow enc e k base w' mv' (D ++ E) ∧ Below base w w' := by
  have one : ∀ u ∈ Re.fl enc E, u.oneCell' = true := fun u hu => by
    obtain ⟨y, _, hy⟩ := List.mem_flatMap.1 hu
    exact h1 y u hy
  obtain ⟨v', w', hr', e1, e2, _⟩ := run_append_own (P := Tryd.prog) w base t t e i z k bytes ht hi hz hs hy zc k0 mv D.length (Re.fl enc D) ho x E.length c (Re.fl enc E) (Re.fl_len hk E) hsrc one (by simp only [maxLen]; omega) (by omega) hb
  refine ⟨v', w', hr', ?_, ?_⟩
  · have q : Re.fl enc D ++ Re.fl enc E = Re.fl enc (D ++ E) := by simp [Re.fl]
    rw [q] at e1
    rw [Re.Ow, List.length_append]; exact e1
  · refine ⟨e2.os, e2.tape, e2.output, e2.size, fun j hj => e2.block j (by omega) ?_⟩
    intro hk'
    have := (ho.lt j hk'.symm).1
    omega
theorem BR.cells {w : World} {b off : Nat} {B : Ch.L8} (h : BR w (some ⟨b, off, none⟩) B) : ∀ j u, (Re.fl ebb B)[j]? = some u → w.cell? ((⟨b, off, none⟩ : Addr).add j) = some u := by
  refine fl_each (enc := ebb) (k := 1) ebb_len (by omega) (fun i a ha r v hv => ?_)
  obtain ⟨b', off', e, c⟩ := h i a ha
  cases e
  have rl : r < 1 := (List.getElem?_eq_some_iff.1 hv).1
  obtain rfl : r = 0 := by omega
  rw [Nat.mul_one]
  cases hv
  exact c
theorem BR.of_ow {w : World} {base : Nat} {p : Option Addr} {n c : Nat} {D : Ch.L8} (h : Re.Ow ebb 5 1 base w (.slice p n c) D) : n = D.length ∧ BR w p D ∧ (p = none ∨ ∃ b off, p = some ⟨b, off, none⟩) ∧ (∀ b off, p = some ⟨b, off, none⟩ → b < w.heap.size) ∧ D.length ≤ c := by
  rcases h.shape with ⟨cap, e, rfl⟩ | ⟨g, cap, e, _, hg, hc, _⟩
  · cases e; exact ⟨rfl, fun i x hx => by simp at hx, .inl rfl, (fun b off e => by cases e), Nat.zero_le _⟩
  · cases e
    refine ⟨rfl, fun i x hx => ⟨g, 0, rfl, ?_⟩, .inr ⟨g, 0, rfl⟩, (fun b off e => by cases e; exact hg), hc⟩
    have := h.cell ebb_len hx 0 (by omega) _ rfl
    rw [Nat.zero_add]; simpa using this
theorem BR.of_b8 {w : World} {base : Nat} {mv : Value} {E : Ch.L8} (h : B8 base w mv E) (hE : 1 ≤ E.length) : ∃ g cap, mv = .slice (some ⟨g, 0, none⟩) E.length cap ∧ base ≤ g ∧ g < w.heap.size ∧ E.length ≤ cap ∧ BR w (some ⟨g, 0, none⟩) E := by
  rcases h.2 with ⟨_, h0⟩ | ⟨g, cap, cur, rfl, hb, hg, hc, hm, _⟩
  · omega
  · refine ⟨g, cap, rfl, hb, ?_, hc, fun i c hi => ⟨g, 0, rfl, ?_⟩⟩
    · rcases Nat.lt_or_ge g w.heap.size with hl | hl
      · exact hl
      · simp [Array.getElem?_eq_none hl] at hg
    · have hi' := (List.getElem?_eq_some_iff.1 hi).1
      have := World.ownsRow.cells h (g := g) rfl i (.int .u8 (c.toNat : Int)) (by simp [Lib.byteCells, hi])
      rwa [Go.WideShapes.add_plain] at this
theorem BR.take {w : World} {p : Option Addr} {B : Ch.L8} (h : BR w p B) (k : Nat) : BR w p (B.take k) := fun i c hc => by
  rw [List.getElem?_take] at hc
  split at hc
  · exact h i c hc
  · cases hc
/-- What is told of all the bytes, of their beginnings, with a byte more. -/
theorem dec_all {E : Ch.L8} {l : List In} {nums : List Int} {strs : List ByteArray} (h : Reads dcd0 E (nums, strs, l)) (hl : l.length ≤ 131072) : (fin E).f = none ∧ dl E = l ∧ dn E = nums ∧ dt E = strs := by
  have e := h.ok [] []
  simp only [List.nil_append, List.append_nil, List.length_nil, Nat.zero_add] at e
  refine ⟨?_, ?_, ?_, ?_⟩
  · unfold fin; rw [e, if_neg (by simp)]
  · unfold dl; rw [e]; show l.take 131073 = l; exact List.take_of_length_le (by omega)
  · unfold dn; rw [e]
  · unfold dt; rw [e]
theorem dec_cut {E : Ch.L8} {v : List Int × List ByteArray × List In} (h : Reads dcd0 E v) {k : Nat} (hk : k < E.length) : (fin (E.take k)).f = some k := by
  have e := h.cut [] k hk
  simp only [List.nil_append, List.length_nil, Nat.zero_add] at e
  unfold fin
  split
  · rw [rf_stuck (by rw [e]; rfl)]; exact e
  · exact e
theorem dec_more {E : Ch.L8} {v : List Int × List ByteArray × List In} (h : Reads dcd0 E v) (c : UInt8) : (fin (E ++ [c])).f = some E.length := by
  have e := h.ok [] [c]
  simp only [List.nil_append, List.length_nil, Nat.zero_add] at e
  unfold fin
  rw [e, if_pos (by simp)]
  rfl
end Cd
end Go.Proofs.YtnobafmleellhaaDoor

namespace Go.Proofs.YtnobafmleellhaaDoor
open Go Go.RowKit Go.Deep Go.Shelf

namespace Cd
def Exa {α : Type} (r : Rdr α) (P : α → Ch.L8 → Prop) : Prop := ∀ (B : Ch.L8) (a : Nat) (v : α) (s' : Rd), a ≤ B.length → r B ⟨a, none⟩ = (v, s') → s'.f = none → a ≤ s'.a ∧ s'.a ≤ B.length ∧ ∃ E, P v E ∧ B.take s'.a = B.take a ++ E
theorem Exa.imp {α : Type} {r : Rdr α} {P Q : α → Ch.L8 → Prop} (h : Exa r P) (hpq : ∀ v E, P v E → Q v E) : Exa r Q := fun B a v s' ha he hf => by
  obtain ⟨h1, h2, E, h3, h4⟩ := h B a v s' ha he hf
  exact ⟨h1, h2, E, hpq v E h3, h4⟩
theorem exa_ret {α : Type} (u : α) : Exa (ret u) (fun v E => v = u ∧ E = []) := fun B a v s' ha he hf => by
  cases he
  exact ⟨Nat.le_refl _, ha, [], ⟨rfl, rfl⟩, by simp⟩
theorem exa_bnd {α β : Type} {r : Rdr α} {k : α → Rdr β} {P : α → Ch.L8 → Prop} {Q : α → β → Ch.L8 → Prop} (h : Exa r P) (hk : ∀ v E, P v E → Exa (k v) (Q v)) (st : ∀ v, Stuck (k v)) : Exa (bnd r k) (fun u E => ∃ v E1 E2, P v E1 ∧ Q v u E2 ∧ E = E1 ++ E2) := fun B a u s' ha he hf => by
  have he' : k (r B ⟨a, none⟩).1 B (r B ⟨a, none⟩).2 = (u, s') := he
  obtain ⟨⟨v, s1⟩, hr⟩ : ∃ x, r B ⟨a, none⟩ = x := ⟨_, rfl⟩
  rw [hr] at he'
  simp only at he'
  have f1 : s1.f = none := by
    cases hs : s1.f with
    | none => rfl
    | some x =>
      have := st v B s1 (by rw [hs]; rfl)
      rw [he'] at this
      simp only at this
      rw [← this, hf] at hs
      cases hs
  obtain ⟨a1, f⟩ := s1
  simp only at f1
  subst f1
  obtain ⟨h1, h2, E1, h3, h4⟩ := h B a v ⟨a1, none⟩ ha hr rfl
  obtain ⟨g1, g2, E2, g3, g4⟩ := hk v E1 h3 B a1 u s' h2 he' hf
  simp only at h1 h2 h4
  exact ⟨by omega, g2, E1 ++ E2, ⟨v, E1, E2, h3, g3, rfl⟩, by rw [g4, h4, List.append_assoc]⟩
theorem exa_take (n : Nat) : Exa (take n) (fun v E => E = v ∧ v.length = n) := fun B a v s' ha he hf => by
  by_cases c : B.length - a < n
  · have : take n B ⟨a, none⟩ = ([], ⟨a, some B.length⟩) := by unfold take; rw [if_neg (by simp), if_pos c]
    rw [this] at he
    cases he
    cases hf
  · have : take n B ⟨a, none⟩ = ((B.drop a).take n, ⟨a + n, none⟩) := by unfold take; rw [if_neg (by simp), if_neg c]
    rw [this] at he
    cases he
    refine ⟨by simp, by simp; omega, _, ⟨rfl, by rw [List.length_take, List.length_drop]; omega⟩, ?_⟩
    rw [List.take_add]
theorem exa_next : Exa next (fun c E => E = [c]) := (exa_bnd (exa_take 1) (fun v _ _ => exa_ret (v.headD 0)) fun _ => stuck_ret _).imp fun c E ⟨v, E1, E2, ⟨e1, e2⟩, ⟨e3, e4⟩, e5⟩ => by
  obtain ⟨x, rfl⟩ : ∃ x, v = [x] := by
    match v, e2 with
    | [x], _ => exact ⟨x, rfl⟩
  rw [e5, e1, e4, e3]; rfl
theorem exa_mk1 (i : Nat) (c : UInt8) : Exa (mk1 i c) (fun _ E => E = [c]) := by
  have hk : ∀ x : UInt8, Exa (fun (_ : Ch.L8) (s : Rd) => ((), if x = c then s else rf s i)) (fun _ E => x = c ∧ E = []) := fun x B a v s' ha he hf => by
    by_cases h : x = c
    · simp only [if_pos h] at he
      cases he
      exact ⟨Nat.le_refl _, ha, [], ⟨h, rfl⟩, by simp⟩
    · simp only [if_neg h] at he
      cases he
      have := rf_some ⟨a, none⟩ i
      rw [hf] at this
      cases this
  refine (exa_bnd exa_next (fun x _ _ => hk x) (fun x => fun _ s hs => ?_)).imp fun c' E ⟨v, E1, E2, e1, ⟨e2, e3⟩, e4⟩ => by rw [e4, e1, e3, e2]; rfl
  show (if x = c then s else rf s i) = s
  split
  · rfl
  · exact rf_stuck hs
theorem exa_mark : Exa mark (fun _ E => E = [65, 66, 67, 49]) :=
  (exa_bnd (exa_mk1 0 65) (fun _ _ _ => exa_bnd (exa_mk1 1 66) (fun _ _ _ => exa_bnd (exa_mk1 2 67) (fun _ _ _ => exa_mk1 3 49) fun _ => stuck_mk1 _ _) fun _ => stuck_bnd (stuck_mk1 _ _) fun _ => stuck_mk1 _ _) fun _ => stuck_bnd (stuck_mk1 _ _) fun _ => stuck_bnd (stuck_mk1 _ _) fun _ => stuck_mk1 _ _).imp
    fun _ E ⟨_, E1, E2, e1, ⟨_, E3, E4, e2, ⟨_, E5, E6, e3, e4, e5⟩, e6⟩, e7⟩ => by rw [e7, e6, e5, e1, e2, e3, e4]; rfl
theorem ofNat_id (c : UInt8) : UInt8.ofNat c.toNat = c := UInt8.toNat_inj.1 (by rw [UInt8.toNat_ofNat_of_lt' (by have := c.toNat_lt; show c.toNat < 256; omega)])
theorem exa_nbe (first i n : Nat) (c : UInt8) : Exa (nbe first i n c) (fun v E => E = [] ∧ v = n ∧ ¬ ((c.toNat = 0 ∧ 0 < i) ∨ 2147483647 < n)) := fun B a v s' ha he hf => by
  by_cases h : (c.toNat = 0 ∧ 0 < i) ∨ 2147483647 < n
  · rw [nbe_yes h] at he
    cases he
    have := rf_some ⟨a, none⟩ first
    rw [hf] at this
    cases this
  · rw [nbe_no h] at he
    cases he
    exact ⟨Nat.le_refl _, ha, [], ⟨rfl, rfl, h⟩, by simp⟩
theorem exa_nbl (first : Nat) : ∀ (k i acc : Nat), Exa (nbl first k i acc) (fun v E => ∃ m, E = num m ∧ v = acc + m * 2 ^ (7 * i) ∧ (0 < i → m ≠ 0) ∧ v ≤ 2147483647)
  | 0, i, acc => fun B a v s' ha he hf => by
    have : nbl first 0 i acc B ⟨a, none⟩ = (0, rf ⟨a, none⟩ first) := rfl
    rw [this] at he
    cases he
    have := rf_some ⟨a, none⟩ first
    rw [hf] at this
    cases this
  | k + 1, i, acc => by
    have hk : ∀ c : UInt8, Exa (if 128 ≤ c.toNat then nbl first k (i + 1) (acc + c.toNat % 128 * 2 ^ (7 * i)) else nbe first i (acc + c.toNat % 128 * 2 ^ (7 * i)) c) (fun v E => ∃ m, [c] ++ E = num m ∧ v = acc + m * 2 ^ (7 * i) ∧ (0 < i → m ≠ 0) ∧ v ≤ 2147483647) := fun c => by
      have cl := c.toNat_lt
      by_cases h : 128 ≤ c.toNat
      · rw [if_pos h]
        refine (exa_nbl first k (i + 1) _).imp fun v E ⟨m, e1, e2, e3, e4⟩ => ⟨c.toNat % 128 + 128 * m, ?_, ?_, ?_, e4⟩
        · have hm := e3 (by omega)
          rw [num_ge (by omega), show (c.toNat % 128 + 128 * m) % 128 + 128 = c.toNat by omega, show (c.toNat % 128 + 128 * m) / 128 = m by omega, ofNat_id, e1]
          rfl
        · rw [e2, show 7 * (i + 1) = 7 * i + 7 by omega, Nat.pow_add, show (2 : Nat) ^ 7 = 128 from rfl]
          generalize 2 ^ (7 * i) = P
          have q : m * (P * 128) = 128 * m * P := by rw [Nat.mul_comm P 128, ← Nat.mul_assoc, Nat.mul_comm m 128]
          rw [q, Nat.add_mul, Nat.add_assoc]
        · intro _
          have := e3 (by omega)
          omega
      · rw [if_neg h]
        refine (exa_nbe first i _ c).imp fun v E ⟨e1, e2, e3⟩ => ⟨c.toNat, ?_, ?_, ?_, ?_⟩
        · rw [e1, num_lt (by omega), ofNat_id]; rfl
        · rw [e2, Nat.mod_eq_of_lt (by omega)]
        · intro hi hz; exact e3 (.inl ⟨hz, hi⟩)
        · rw [e2]
          rcases Nat.lt_or_ge 2147483647 (acc + c.toNat % 128 * 2 ^ (7 * i)) with z | z
          · exact absurd (.inr z) e3
          · exact z
    refine (exa_bnd exa_next (fun c _ _ => hk c) (fun c => ?_)).imp fun v E ⟨c, E1, E2, e1, ⟨m, e2, e3⟩, e4⟩ => ⟨m, by rw [e4, e1]; exact e2, e3⟩
    split
    · exact stuck_nbl first k _ _
    · exact stuck_nbe _ _ _ _
theorem exa_nb : Exa nb (fun v E => E = num v ∧ v ≤ 2147483647) := fun B a v s' ha he hf => by
  have he' : nbl a 5 0 0 B ⟨a, none⟩ = (v, s') := he
  obtain ⟨h1, h2, E, ⟨m, e1, e2, _, e4⟩, h4⟩ := exa_nbl a 5 0 0 B a v s' ha he' hf
  refine ⟨h1, h2, E, ⟨?_, e4⟩, h4⟩
  rw [e1, e2]; simp
theorem dbl_le {c0 c1 c2 c3 c4 c5 c6 c7 : UInt8} : dbl ((le [c0, c1, c2, c3, c4, c5, c6, c7] : Nat) : Int) = [c0, c1, c2, c3, c4, c5, c6, c7] := by
  have l0 := c0.toNat_lt
  have l1 := c1.toNat_lt
  have l2 := c2.toNat_lt
  have l3 := c3.toNat_lt
  have l4 := c4.toNat_lt
  have l5 := c5.toNat_lt
  have l6 := c6.toNat_lt
  have l7 := c7.toNat_lt
  simp only [le, Nat.mul_zero, Nat.add_zero]
  obtain ⟨x7, h7⟩ : ∃ x, c7.toNat = x := ⟨_, rfl⟩
  obtain ⟨x6, h6⟩ : ∃ x, c6.toNat + 256 * x7 = x := ⟨_, rfl⟩
  obtain ⟨x5, h5⟩ : ∃ x, c5.toNat + 256 * x6 = x := ⟨_, rfl⟩
  obtain ⟨x4, h4⟩ : ∃ x, c4.toNat + 256 * x5 = x := ⟨_, rfl⟩
  obtain ⟨x3, h3⟩ : ∃ x, c3.toNat + 256 * x4 = x := ⟨_, rfl⟩
  obtain ⟨x2, h2⟩ : ∃ x, c2.toNat + 256 * x3 = x := ⟨_, rfl⟩
  obtain ⟨x1, h1⟩ : ∃ x, c1.toNat + 256 * x2 = x := ⟨_, rfl⟩
  obtain ⟨x0, h0⟩ : ∃ x, c0.toNat + 256 * x1 = x := ⟨_, rfl⟩
  rw [h7, h6, h5, h4, h3, h2, h1, h0]
  have b : ∀ k, by8 ((x0 : Nat) : Int) k = UInt8.ofNat (x0 / 256 ^ k % 256) := fun k => by rw [by8, Int.toNat_natCast]
  have st : ∀ k, x0 / 256 ^ (k + 1) = x0 / 256 ^ k / 256 := fun k => by rw [Nat.pow_succ, Nat.div_div_eq_div_mul]
  have d0 : x0 / 256 ^ 0 = x0 := by simp
  have d1 : x0 / 256 ^ 1 = x1 := by rw [st 0, d0]; omega
  have d2 : x0 / 256 ^ 2 = x2 := by rw [st 1, d1]; omega
  have d3 : x0 / 256 ^ 3 = x3 := by rw [st 2, d2]; omega
  have d4 : x0 / 256 ^ 4 = x4 := by rw [st 3, d3]; omega
  have d5 : x0 / 256 ^ 5 = x5 := by rw [st 4, d4]; omega
  have d6 : x0 / 256 ^ 6 = x6 := by rw [st 5, d5]; omega
  have d7 : x0 / 256 ^ 7 = x7 := by rw [st 6, d6]; omega
  simp only [dbl, b, d0, d1, d2, d3, d4, d5, d6, d7]
  rw [show x0 % 256 = c0.toNat by omega, show x1 % 256 = c1.toNat by omega, show x2 % 256 = c2.toNat by omega, show x3 % 256 = c3.toNat by omega, show x4 % 256 = c4.toNat by omega, show x5 % 256 = c5.toNat by omega, show x6 % 256 = c6.toNat by omega, show x7 % 256 = c7.toNat by omega]
  simp only [ofNat_id]
theorem flat_wds : ∀ (n : Nat) (L : Ch.L8), L.length = 8 * n → (wds n L).flatMap dbl = L
  | 0, L, h => by
    rw [List.eq_nil_of_length_eq_zero (show L.length = 0 by omega)]; rfl
  | n + 1, L, h => by
    match L, h with
    | c0 :: c1 :: c2 :: c3 :: c4 :: c5 :: c6 :: c7 :: L, h =>
      simp only [List.length_cons] at h
      have ih := flat_wds n L (by omega)
      unfold wds at ih ⊢
      rw [List.range_succ_eq_map, List.map_cons, List.map_map, List.flatMap_cons]
      have e1 : wd (c0 :: c1 :: c2 :: c3 :: c4 :: c5 :: c6 :: c7 :: L) 0 = ((le [c0, c1, c2, c3, c4, c5, c6, c7] : Nat) : Int) := rfl
      have e2 : (List.range n).map (wd (c0 :: c1 :: c2 :: c3 :: c4 :: c5 :: c6 :: c7 :: L) ∘ Nat.succ) = (List.range n).map (wd L) := List.map_congr_left fun j _ => by
        simp only [Function.comp, wd]
        rw [show 8 * Nat.succ j = 8 * j + 8 by omega]
        rfl
      rw [e1, e2, ih, dbl_le]
      rfl
theorem u64_wds (n : Nat) (L : Ch.L8) : U64 (wds n L) := fun x hx => by
  obtain ⟨j, _, rfl⟩ := List.mem_map.1 hx
  have h := le_lt ((L.drop (8 * j)).take 8)
  have h2 : ((L.drop (8 * j)).take 8).length ≤ 8 := by rw [List.length_take]; omega
  have h3 : (256 : Nat) ^ ((L.drop (8 * j)).take 8).length ≤ 256 ^ 8 := Nat.pow_le_pow_right (by omega) h2
  have h4 : (256 : Nat) ^ 8 = 18446744073709551616 := rfl
  unfold wd
  omega
theorem exa_dbs : Exa dbs (fun l E => E = num l.length ++ l.flatMap dbl ∧ U64 l) := by
  refine (exa_bnd exa_nb (fun n _ _ => exa_bnd (exa_take (8 * n)) (fun L _ _ => exa_ret (wds (L.length / 8) L)) fun _ => stuck_ret _) fun _ => stuck_bnd (stuck_take _) fun _ => stuck_ret _).imp ?_
  rintro l E ⟨n, E1, E2, ⟨e1, _⟩, ⟨L, E3, E4, ⟨e3, e4⟩, ⟨e5, e6⟩, e7⟩, e8⟩
  have h8 : L.length / 8 = n := by omega
  rw [h8] at e5
  subst e5
  have hl : (wds n L).length = n := by simp [wds]
  refine ⟨?_, u64_wds n L⟩
  rw [e8, e7, e1, e3, e6, hl, flat_wds n L e4, List.append_nil]
theorem exa_tx1 : Exa tx1r (fun s E => E = tx1 s ∧ s.size ≤ 2147483647) := by
  refine (exa_bnd exa_nb (fun n _ _ => exa_bnd (exa_take n) (fun L _ _ => exa_ret (⟨L.toArray⟩ : ByteArray)) fun _ => stuck_ret _) fun _ => stuck_bnd (stuck_take _) fun _ => stuck_ret _).imp ?_
  rintro s E ⟨n, E1, E2, ⟨e1, e2⟩, ⟨L, E3, E4, ⟨e3, e4⟩, ⟨e5, e6⟩, e7⟩, e8⟩
  subst e5
  have hz : (⟨L.toArray⟩ : ByteArray).size = n := by rw [← e4]; exact List.size_toArray
  rw [tx1, hz]
  exact ⟨by rw [e8, e7, e1, e3, e6, List.append_nil], e2⟩
theorem exa_rep {α : Type} {r : Rdr α} {e : α → Ch.L8} {K : α → Prop} (h : Exa r (fun x E => E = e x ∧ K x)) (st : Stuck r) : ∀ n, Exa (rep r n) (fun l E => l.length = n ∧ E = l.flatMap e ∧ ∀ x ∈ l, K x)
  | 0 => (exa_ret []).imp fun l E ⟨h1, h2⟩ => by rw [h1, h2]; exact ⟨rfl, rfl, fun x hx => by cases hx⟩
  | n + 1 => by
    have h2 := exa_bnd h (fun x _ _ => exa_bnd (exa_rep h st n) (fun l _ _ => exa_ret (x :: l)) fun _ => stuck_ret _) (k := fun x => bnd (rep r n) fun l => ret (x :: l)) fun _ => stuck_bnd (stuck_rep _) fun _ => stuck_ret _
    have h3 : Exa (rep r (n + 1)) _ := fun B a v s' ha he hf => h2 B a v s' ha he hf
    refine h3.imp ?_
    rintro l E ⟨x, E1, E2, ⟨e1, k1⟩, ⟨l', E3, E4, ⟨e3, e4, k2⟩, ⟨e5, e6⟩, e7⟩, e8⟩
    subst e5
    refine ⟨by rw [List.length_cons, e3], by rw [e8, e7, e1, e4, e6, List.append_nil, List.flatMap_cons], fun y hy => ?_⟩
    rcases List.mem_cons.1 hy with rfl | hy
    · exact k1
    · exact k2 y hy
theorem exa_txs : Exa txs (fun l E => E = num l.length ++ l.flatMap tx1 ∧ ∀ s ∈ l, s.size ≤ 2147483647) := by
  refine (exa_bnd exa_nb (fun n _ _ => exa_rep exa_tx1 stuck_tx1r n) fun _ => stuck_rep _).imp ?_
  rintro l E ⟨n, E1, E2, ⟨e1, _⟩, ⟨e2, e3, e4⟩, e5⟩
  exact ⟨by rw [e5, e1, e3, e2], e4⟩
theorem exa_fld (b : Bool) : Exa (fld b) (fun v E => E = if b then num v else []) := by
  cases b with
  | true => exact exa_nb.imp fun v E h => h.1
  | false => exact (exa_ret 0).imp fun v E h => h.2
theorem exa_in1 : Exa in1 (fun x E => E = op1 x ∧ True) := by
  have key : ∀ a : Nat, Exa (bnd next (fun c => if 1 ≤ c.toNat ∧ c.toNat ≤ 33 then bnd (fld (decide ((row c.toNat).a ≠ 0))) fun a => bnd (fld (decide ((row c.toNat).b ≠ 0))) fun b => ret (⟨c.toNat, a, b⟩ : In)
    else fun _ s' => ((⟨0, 0, 0⟩ : In), rf s' a))) (fun x E => E = op1 x ∧ True) := fun a => by
    have hk : ∀ c : UInt8, Exa (if 1 ≤ c.toNat ∧ c.toNat ≤ 33 then bnd (fld (decide ((row c.toNat).a ≠ 0))) fun a => bnd (fld (decide ((row c.toNat).b ≠ 0))) fun b => ret (⟨c.toNat, a, b⟩ : In) else fun _ s' => ((⟨0, 0, 0⟩ : In), rf s' a)) (fun x E => [c] ++ E = op1 x) := fun c => by
      by_cases h : 1 ≤ c.toNat ∧ c.toNat ≤ 33
      · rw [if_pos h]
        refine (exa_bnd (exa_fld _) (fun va _ _ => exa_bnd (exa_fld _) (fun vb _ _ => exa_ret (⟨c.toNat, va, vb⟩ : In)) fun _ => stuck_ret _) fun _ => stuck_bnd (stuck_fld _) fun _ => stuck_ret _).imp ?_
        rintro x E ⟨va, E1, E2, e1, ⟨vb, E3, E4, e3, ⟨e5, e6⟩, e7⟩, e8⟩
        subst e5
        rw [op1_eq]
        simp only [Int.toNat_natCast]
        rw [e8, e7, e1, e3, e6, List.append_nil, ofNat_id]
        rfl
      · rw [if_neg h]
        intro B a' v s' ha he hf
        cases he
        have := rf_some ⟨a', none⟩ a
        rw [hf] at this
        cases this
    refine (exa_bnd exa_next (fun c _ _ => hk c) (fun c => ?_)).imp ?_
    · split
      · exact stuck_bnd (stuck_fld _) fun _ => stuck_bnd (stuck_fld _) fun _ => stuck_ret _
      · exact fun _ s' hs' => rf_stuck hs'
    · rintro x E ⟨c, E1, E2, e1, e2, e3⟩
      rw [e3, e1]
      exact ⟨e2, trivial⟩
  exact fun B a v s' ha he hf => key a B a v s' ha he hf
theorem exa_ins : Exa ins (fun l E => E = num l.length ++ l.flatMap op1) := by
  refine (exa_bnd exa_nb (fun n _ _ => exa_rep exa_in1 stuck_in1 n) fun _ => stuck_rep _).imp ?_
  rintro l E ⟨n, E1, E2, ⟨e1, _⟩, ⟨e2, e3, e4⟩, e5⟩
  rw [e5, e1, e3, e2]
theorem exa_dcd : Exa dcd0 (fun x E => E = enc x.2.2 x.1 x.2.1 ∧ U64 x.1 ∧ ∀ s ∈ x.2.1, s.size ≤ 2147483647) := by
  refine (exa_bnd exa_mark (fun _ _ _ => exa_bnd exa_dbs (fun d _ _ => exa_bnd exa_txs (fun t _ _ => exa_bnd exa_ins (fun o _ _ => exa_ret (d, t, o)) fun _ => stuck_ret _) fun _ => stuck_bnd stuck_ins fun _ => stuck_ret _) fun _ => stuck_bnd stuck_txs fun _ => stuck_bnd stuck_ins fun _ => stuck_ret _) fun _ => stuck_bnd stuck_dbs fun _ => stuck_bnd stuck_txs fun _ => stuck_bnd stuck_ins fun _ => stuck_ret _).imp ?_
  rintro x E ⟨_, E1, E2, e1, ⟨d, E3, E4, ⟨e3, hU⟩, ⟨t, E5, E6, ⟨e5, hZ⟩, ⟨o, E7, E8, e7, ⟨ex, e8⟩, e9⟩, e10⟩, e11⟩, e12⟩
  subst ex
  refine ⟨?_, hU, hZ⟩
  rw [e12, e11, e10, e9, e1, e3, e5, e7, e8]
  unfold enc
  simp only [List.append_assoc, List.append_nil]
end Cd
end Go.Proofs.YtnobafmleellhaaDoor

namespace Go.Proofs.YtnobafmleellhaaDoor
open Go Go.RowKit Go.Deep Go.Shelf

namespace Cd
theorem bad_lt {n N S : Nat} : ∀ {l : List In} {i k : Nat}, bad n N S l i = some k → k < i + l.length
  | [], _, _, h => by rw [bad] at h; cases h
  | x :: l, i, k, h => by
    rw [bad] at h
    by_cases c : rt n N S i x = true
    · rw [if_pos c] at h
      have := bad_lt h
      rw [List.length_cons]; omega
    · rw [if_neg c] at h
      cases h
      rw [List.length_cons]; omega
theorem run_lt : ∀ {l : List In} {i k : Nat} {hs : List Int}, run l i hs = .inl k → k < i + l.length
  | [], _, _, _, h => by rw [run] at h; cases h
  | x :: l, i, k, hs, h => by
    rw [run] at h
    by_cases c : hs.getD i 0 < 0
    · rw [if_pos c] at h
      have := run_lt h
      rw [List.length_cons]; omega
    · rw [if_neg c] at h
      cases e : ps x i hs with
      | none => rw [e] at h; cases h; rw [List.length_cons]; omega
      | some h1 =>
        rw [e] at h
        have := run_lt h
        rw [List.length_cons]; omega
theorem hts_pl (l : List In) (N S : Nat) : (hts l N S).2.1 ≤ l.length := by
  by_cases h : 131072 < l.length
  · rw [hts_big h]; show 131072 ≤ _; omega
  · cases hb : bad l.length N S l 0 with
    | some i =>
      rw [hts_bad h hb]
      have := bad_lt hb
      show i ≤ _; omega
    | none =>
      cases hr : run l 0 (h0 l.length) with
      | inl i =>
        rw [hts_run h hb hr]
        have := run_lt hr
        show i ≤ _; omega
      | inr hs =>
        rw [hts_end h hb hr]
        split
        · exact Nat.zero_le _
        · exact Nat.le_refl _
theorem chk_pl (l : List In) (N S : Nat) : (chk l N S).2.1 ≤ l.length := by
  unfold chk
  split
  · exact Nat.zero_le _
  · exact hts_pl l N S
theorem dec_exact {B : Ch.L8} (h : (fin B).f = none) : ∃ ops, dl B = ops.take 131073 ∧ enc ops (dn B) (dt B) = B ∧ U64 (dn B) ∧ (∀ s ∈ dt B, s.size ≤ 2147483647) ∧ ops.length ≤ B.length := by
  obtain ⟨⟨⟨d, t, o⟩, s'⟩, he⟩ : ∃ x, dcd0 B ⟨0, none⟩ = x := ⟨_, rfl⟩
  have e1 : dl B = o.take 131073 := by unfold dl; rw [he]
  have e2 : dn B = d := by unfold dn; rw [he]
  have e3 : dt B = t := by unfold dt; rw [he]
  unfold fin at h
  rw [he] at h
  simp only at h
  by_cases c : s'.a < B.length
  · rw [if_pos c] at h
    have := rf_some s' s'.a
    rw [h] at this
    cases this
  · rw [if_neg c] at h
    obtain ⟨_, h2, E, ⟨h3, h4, h5⟩, h6⟩ := exa_dcd B 0 _ s' (Nat.zero_le _) he h
    rw [List.take_zero, List.nil_append, List.take_of_length_le (by omega)] at h6
    simp only at h3 h4 h5
    rw [e2, e3]
    have hB : enc o d t = B := by rw [← h3, ← h6]
    refine ⟨o, e1, hB, h4, h5, ?_⟩
    rw [← hB]
    exact (enc_len o d t).1
theorem dec_taken {B : Ch.L8} (h : (fin B).f = none) (hc : (chk (dl B) (dn B).length (dt B).length).2.2 = 0) : enc (dl B) (dn B) (dt B) = B := by
  obtain ⟨o, e1, e2, _⟩ := dec_exact h
  have hl : (dl B).length ≤ 131072 := by
    rcases hts_err (dl B) (dn B).length (dt B).length with e | ⟨e, _⟩
    · have := (hts_ok e).1; omega
    · rw [chk_no e] at hc
      exact absurd hc (by show ¬ (260 : Int) = 0; decide)
  have : o.length ≤ 131072 := by
    rw [e1, List.length_take] at hl; omega
  have e3 : dl B = o := by rw [e1, List.take_of_length_le (by omega)]
  rw [e3]; exact e2
/-- What Decode tells, field by field. -/
def DF (w : World) (B : Ch.L8) (e : Ending) (w' : World) : Prop :=
  ∃ (p q r : Option Addr) (n c m d s f at' : Nat) (err : Int), e = .returned (.tuple #[.agg #[.slice p n c, .slice q m d, .slice r s f], .int .i64 (at' : Int), .int .i64 err]) ∧ Below w.heap.size w w' ∧
    ((err = 261 ∧ n = 0 ∧ m = 0 ∧ s = 0 ∧ at' ≤ B.length) ∨ (err = 260 ∧ n = 0 ∧ m = 0 ∧ s = 0 ∧ at' ≤ B.length) ∨
     (err = 0 ∧ at' = 0 ∧ ∃ l nums strs, enc l nums strs = B ∧ U64 nums ∧ (∀ x ∈ strs, x.size ≤ 2147483647) ∧ (chk l nums.length strs.length).2.2 = 0 ∧ n = l.length ∧ m = nums.length ∧ s = strs.length ∧ LI w' p l ∧ NI w' q nums ∧ TR w' r strs))
theorem DE.fields {w w' : World} {B : Ch.L8} {e : Ending} (h : DE w B e w') : DF w B e w' := by
  obtain ⟨v, at', err, h0, hB, hcase⟩ := h
  rcases hcase with ⟨p, h1, hv, ha, he, h2⟩ | ⟨h1, h2, hv, ha, he⟩ | ⟨h1, h2, ha, he, p, q, r, c1, c2, c3, hv, h3, h4, h5⟩
  · rw [hv] at h0
    exact ⟨none, none, none, 0, 0, 0, 0, 0, 0, at', err, h0, hB, .inl ⟨he, rfl, rfl, rfl, by rw [ha]; exact h2⟩⟩
  · obtain ⟨o, e1, _, _, _, e5⟩ := dec_exact h1
    have h6 := chk_pl (dl B) (dn B).length (dt B).length
    have e6 : (dl B).length ≤ o.length := by rw [e1, List.length_take]; omega
    rw [hv] at h0
    exact ⟨none, none, none, 0, 0, 0, 0, 0, 0, at', err, h0, hB, .inr (.inl ⟨he, rfl, rfl, rfl, by rw [ha]; omega⟩)⟩
  · rw [hv] at h0
    exact ⟨p, q, r, (dl B).length, c1, (dn B).length, c2, (dt B).length, c3, at', err, h0, hB, .inr (.inr ⟨he, ha, dl B, dn B, dt B, dec_taken h1 h2, (dec_exact h1).choose_spec.2.2.1, (dec_exact h1).choose_spec.2.2.2.1, h2, rfl, rfl, rfl, h3, h4, h5⟩)⟩
end Cd
theorem csame_nil (p q r : Option Addr) (c d f : Nat) (W : World) : Calls Tryd.prog 15 #[.agg #[.slice p 0 c, .slice q 0 d, .slice r 0 f], .agg #[.slice none 0 0, .slice none 0 0, .slice none 0 0]] W fun e w' => e = .returned (.bool true) ∧ Below W.heap.size W w' :=
  csame_yes [] [] [] p q r none none none c d f 0 0 0 W (fun i x h => by simp at h) (fun i x h => by simp at h) (.inl rfl) (fun i x h => by simp at h) (fun i x h => by simp at h) (.inl rfl) (by simp) (by simp) (by simp)
set_option maxRecDepth 100000 in
set_option maxHeartbeats 8000000 in
theorem bytes_law (q : Option Addr) (B : Ch.L8) (cap : Nat) (w : World) (hT : Tab10 w) (hq : Cd.BR w q B) (hb : B = [] ∨ ∀ b off, q = some ⟨b, off, none⟩ → b < w.heap.size) (hl : B.length ≤ 9223372036854775807) (hc : B.length ≤ cap) :
    Calls Tryd.prog 8 #[.slice q B.length cap] w fun e w' => e = .returned (.bool true) ∧ Below w.heap.size w w' := by
  have AW := hid (caw_any w hT)
  by_cases hbig : 16777216 < B.length
  · have hbi : (16777216 : Int) < (B.length : Int) := by omega
    clear hT hq hb hc
    go_enter Tryd.func8, Tryd.ntmps8
    go_wp2_with (go_at_call 9; refine AW.out.mono ?_; rintro e w2 ⟨rfl, hB⟩; have B2 := hid hB; clear hB AW)
    go_ret
    exact ⟨rfl, B2.out⟩
  have hbi : ¬ (16777216 : Int) < (B.length : Int) := by omega
  have hli : (B.length : Int) ≤ 16777216 := by omega
  have DC : Hid (∀ W, Below w.heap.size w W → _) := fun W hW => cdec_any q B cap W (hq.on hW) (hb.imp id fun hb b off e => Nat.lt_of_lt_of_le (hb b off e) hW.size) (by omega) hc
  have CVB : Hid (∀ W, Below w.heap.size w W → _) := fun W hW => (hq.on hW).conv (cap := cap)
  clear hT hq hb hc
  go_enter Tryd.func8, Tryd.ntmps8
  go_upto_region 5 with (go_at_call 9; refine AW.out.mono ?_; rintro e w2 ⟨rfl, hB⟩; have B2 := hid hB; clear hB AW)
  have D2 := hid (DC.out w2 B2.out)
  clear DC
  have SN := hid (fun p q r c d f W => csame_nil p q r c d f W)
  go_upto_region 6 with (go_at_call 14; refine D2.out.mono ?_; rintro e w3 hde; obtain ⟨p, q3, r, n, c, m, d, s, f, at', err, rfl, hB, hcase⟩ := hde.fields; have al := alloc_b w3 (.cells #[.slice p n c, .slice q3 m d, .slice r s f] 31); have B3 := hid (below_on (below_on B2.out hB) al); have X3 := hid (Bx.new w3 31 #[.slice p n c, .slice q3 m d, .slice r s f]); have AL := hid al; have HC := hid hcase; clear hB hcase hde al D2 B2)
  generalize w3.alloc (.cells #[.slice p n c, .slice q3 m d, .slice r s f] 31) = w4 at *
  obtain ⟨k0, k1, k2⟩ := bx3 X3.out
  have a0 : (0 : Int) ≤ (at' : Int) := by omega
  obtain h | h | h := HC.out
  · obtain ⟨h1, h2, h3, h4, ha⟩ := h
    subst h1 h2 h3 h4
    have ai : (at' : Int) ≤ (B.length : Int) := by omega
    clear HC CVB AL
    go_wp2_with (go_at_call 15; refine (SN.out _ _ _ _ _ _ _).mono ?_; rintro e w5 ⟨rfl, hB⟩; have B5 := hid (below_on B3.out hB); clear hB SN)
    go_ret
    exact ⟨rfl, B5.out⟩
  · obtain ⟨h1, h2, h3, h4, ha⟩ := h
    subst h1 h2 h3 h4
    have ai : (at' : Int) ≤ (B.length : Int) := by omega
    clear HC CVB AL
    go_wp2_with (go_at_call 15; refine (SN.out _ _ _ _ _ _ _).mono ?_; rintro e w5 ⟨rfl, hB⟩; have B5 := hid (below_on B3.out hB); clear hB SN)
    go_ret
    exact ⟨rfl, B5.out⟩
  · obtain ⟨h1, h2, l, nums, strs, EB, hU, hZ, z2, h3, h4, h5, z3, z4, z5⟩ := h
    subst h1 h2 h3 h4 h5
    obtain ⟨l1, l2, l3, _, _⟩ := Cd.enc_len l nums strs
    rw [EB] at l1 l2 l3
    have L4 := z3.on AL.out
    have N4 := z4.on AL.out
    have S4 := TR.below z5 AL.out (Nat.le_refl _)
    have CH := hid (cchk_any l p q3 r c nums.length d strs.length f w4 L4 (by omega) (by omega) (by omega))
    have EN : Hid (∀ W, Below w4.heap.size w4 W → Calls Tryd.prog 13 #[.agg #[.slice p l.length c, .slice q3 nums.length d, .slice r strs.length f]] W fun e w' => ∃ v, e = .returned (.tuple #[v, .int .i64 0]) ∧ (convert 32 9 v).run Tryd.prog w' = .ok (.string ⟨B.toArray⟩) w' ∧ Below W.heap.size W w') := fun W hB => by
      have := cenc_any l nums strs p q3 r c d f W (L4.on hB) (N4.on hB) (TR.below S4 hB (Nat.le_refl _)) hU (fun x hx => by have := hZ x hx; omega) (by omega) (by omega) (by omega)
      rw [EB, z2] at this
      refine this.mono ?_
      rintro e w' ⟨v, er, rfl, hB, ⟨z, _⟩ | ⟨_, z, _⟩ | ⟨_, _, rfl, hv⟩⟩
      · exact absurd z (by decide)
      · omega
      · exact ⟨v, rfl, hv.conv, hB⟩
    rw [z2] at CH
    clear HC SN AL z2 z3 z4 z5 hU hZ L4 N4 S4 EB l1 l2 l3
    generalize l.length = n1 at *
    generalize nums.length = n2 at *
    generalize strs.length = n3 at *
    go_upto_region 11 with (go_at_call 17; refine CH.out.mono ?_; rintro e w5 ⟨rfl, hB⟩; have BB := hid hB; have B5 := hid (below_on B3.out hB); have X5 := hid (X3.out.on hB); clear k0 k1 k2; obtain ⟨k0, k1, k2⟩ := bx3 X5.out; clear hB CH B3 X3)
    go_upto_region 12 with (go_at_call 13; refine (EN.out w5 BB.out).mono ?_; rintro e w6 ⟨v, rfl, cv, hB⟩; have B6 := hid (below_on B5.out hB); clear hB EN BB B5 X5 k0 k1 k2)
    have cb := CVB.out w6 B6.out
    clear CVB
    go_wp2_with fail
    go_ret
    exact ⟨rfl, B6.out⟩
end Go.Proofs.YtnobafmleellhaaDoor
