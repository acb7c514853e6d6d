/-
  Texts put together: NReadA, SOneF, SOne2, NKpF, NKpG, NKpH.
-/
import Derived.Test.YtbdilikdenhnkaaDoorNFrom
import Derived.Test.YtbdilikdenhnkaaDoorNInBase
import Derived.Test.YtbdilikdenhnkaaDoorNKpD
import Derived.Test.YtbdilikdenhnkaaDoorRF
import Derived.Test.YtbdilikdenhnkaaDoorNAwake
import Derived.Laws.Concat
namespace Go.Proofs.YtbdilikdenhnkaaDoor
open Go.RowKit Go.Deep

theorem readOf_any (s : ByteArray) (xs : List Int) (w : World) (hs : Str s xs) (hl : xs.length ≤ 140737488355329) :
    Calls Tryd.prog 11 #[.string s] w fun e w' => FromTold xs 10 w e w' := by
  have FB := hid (fromBase_any s xs 10 w hs hl (by omega) (by omega))
  clear hs hl
  go_enter Tryd.func11, Tryd.ntmps11
  go_wp2_with fail
  refine FB.out.mono ?_
  rintro e w1 ⟨r, os, at_, E, rfl, h⟩
  have H := hid h
  clear h FB
  go_wp2_with fail
  go_ret3
  exact ⟨r, os, _, _, rfl, H.out⟩
end Go.Proofs.YtbdilikdenhnkaaDoor

namespace Go.Proofs.YtbdilikdenhnkaaDoor

theorem FromIs.one {xs : List Int} {B : Int} {w0 w1 v0 v1 : World} {r r' : Option Addr} {os os' : List Int} {a a' E E' : Int} (h : FromIs xs B w0 w1 r os a E) (k : FromIs xs B v0 v1 r' os' a' E') : os = os' ∧ a = a' ∧ E = E' := by
  cases h with
  | base h1 => cases k <;> first | exact ⟨rfl, rfl, rfl⟩ | (exfalso; omega)
  | empty h1 h2 h3 =>
    subst h3
    cases k <;> first | exact ⟨rfl, rfl, rfl⟩ | (exfalso; omega) | (exfalso; simp_all)
  | digit t h1 h2 h3 h4 h5 =>
    cases k with
    | base k1 => exfalso; omega
    | empty k1 k2 k3 => subst k3; simp at h3
    | digit u k1 k2 k3 k4 k5 =>
      have : t = u := by
        rcases Nat.lt_trichotomy t u with c | c | c
        · have := k4 t c; omega
        · exact c
        · have := h4 u c; omega
      subst this
      exact ⟨rfl, rfl, rfl⟩
    | big k1 k2 k3 k4 k5 => have := k3 t h3; omega
    | ok _ _ k1 k2 k3 k4 k5 k6 => have := k3 t h3; omega
  | big h1 h2 h3 h4 h5 =>
    cases k with
    | base k1 => exfalso; omega
    | empty k1 k2 k3 => exact absurd k3 h4
    | digit u k1 k2 k3 k4 k5 => have := h3 u k3; omega
    | big k1 k2 k3 k4 k5 => exact ⟨rfl, rfl, rfl⟩
    | ok _ _ k1 k2 k3 k4 k5 k6 => omega
  | ok _ _ h1 h2 h3 h4 h5 h6 =>
    cases k with
    | base k1 => exfalso; omega
    | empty k1 k2 k3 => exact absurd k3 h4
    | digit u k1 k2 k3 k4 k5 => have := h3 u k3; omega
    | big k1 k2 k3 k4 k5 => omega
    | ok _ _ k1 k2 k3 k4 k5 k6 => exact ⟨Nm.canon h6.2.1 k6.2.1 h6.2.2.1 k6.2.2.1 (by rw [h6.2.2.2.1, k6.2.2.2.1]), rfl, rfl⟩

end Go.Proofs.YtbdilikdenhnkaaDoor

namespace Go.Proofs.YtbdilikdenhnkaaDoor

theorem InIs.one {zs : List Int} {B : Int} {up : Bool} {xs ys : List Int} {E F : Int} (hz : Nm.Limbs zs) (h : InIs zs B up xs E) (k : InIs zs B up ys F) : xs = ys ∧ E = F := by
  cases h with
  | big h1 => cases k <;> first | exact ⟨rfl, rfl⟩ | (exfalso; omega)
  | base h1 h2 => cases k <;> first | exact ⟨rfl, rfl⟩ | (exfalso; omega)
  | zero h1 h2 h3 => cases k <;> first | exact ⟨rfl, rfl⟩ | (exfalso; omega)
  | ok L h1 h2 h3 h4 h5 =>
    cases k with
    | big k1 => exfalso; omega
    | base k1 k2 => exfalso; omega
    | zero k1 k2 k3 => exfalso; omega
    | ok M k1 k2 k3 k4 k5 => exact ⟨by rw [Dn.strip_dg (by omega) (Nm.val_bd zs hz).1 h5 k5], rfl⟩
end Go.Proofs.YtbdilikdenhnkaaDoor

namespace Go.Proofs.YtbdilikdenhnkaaDoor
open Go Go.RowKit Go.Deep

namespace Kp
theorem str_app {a b : ByteArray} {xs ys : List Int} (h : Str a xs) (k : Str b ys) : Str (a ++ b) (xs ++ ys) := by
  unfold Str at *
  rw [← h, ← k, ← List.map_append]
  simp
/-- A limb turned. -/
theorem xr_bd (x : Int) (h0 : 0 ≤ x) (h1 : x < 18446744073709551616) : 0 ≤ bits .xor .u64 x 21845 ∧ bits .xor .u64 x 21845 < 18446744073709551616 := by
  obtain ⟨a, rfl⟩ : ∃ a : Nat, x = (a : Int) := ⟨x.toNat, by omega⟩
  have h := bits_xor_u64_nat a 21845 (by omega) (by omega)
  have e : bits .xor .u64 (a : Int) 21845 = ((a ^^^ 21845 : Nat) : Int) := h
  have hlt : a ^^^ 21845 < 2 ^ 64 := Nat.xor_lt_two_pow (by omega) (by omega)
  rw [e]
  omega
theorem count_one {zs : List Int} {a b E F : Int} (h : CountIs zs a E) (k : CountIs zs b F) : a = b ∧ E = F := by
  cases h with
  | big h1 => cases k <;> first | exact ⟨rfl, rfl⟩ | (exfalso; omega)
  | zero h1 => cases k <;> first | exact ⟨rfl, rfl⟩ | (exfalso; omega)
  | ok n h1 h2 h3 =>
    cases k with
    | big k1 => exfalso; omega
    | zero k1 => exfalso; omega
    | ok m k1 k2 k3 =>
      have : n = m := Ln.unique (by omega) h3 k3
      exact ⟨by rw [this], rfl⟩
theorem CI (zs : List Int) (B : Int) (up : Bool) (hz : Nm.Limbs zs) (b0 : -9223372036854775808 ≤ B) (b1 : B ≤ 9223372036854775807) :
    ∃ s E, ∀ W p n cap, Arg W p n cap zs → Calls Tryd.prog 7 #[.slice p n cap, .int .i64 B, .bool up] W fun e w' => e = .returned (.tuple #[.string s, .int .i64 E]) ∧ Below W.heap.size W w' := by
  by_cases h : ∃ s xs E, Str s xs ∧ InIs zs B up xs E
  · obtain ⟨s, xs, E, h1, h2⟩ := h
    refine ⟨s, E, fun W p n cap hA => (inBase_any p n cap zs B up W hA b0 b1).mono ?_⟩
    rintro e w' ⟨t, ys, F, rfl, k1, k2, k3⟩
    obtain ⟨rfl, rfl⟩ := h2.one hz k2
    obtain rfl := h1.inj k1
    exact ⟨rfl, k3⟩
  · refine ⟨⟨#[]⟩, 0, fun W p n cap hA => (inBase_any p n cap zs B up W hA b0 b1).mono ?_⟩
    rintro e w' ⟨t, ys, F, rfl, k1, k2, k3⟩
    exact absurd ⟨t, ys, F, k1, k2⟩ h
theorem CD (zs : List Int) (hz : Nm.Limbs zs) :
    ∃ s E, ∀ W p n cap, Arg W p n cap zs → Calls Tryd.prog 8 #[.slice p n cap] W fun e w' => e = .returned (.tuple #[.string s, .int .i64 E]) ∧ Below W.heap.size W w' := by
  by_cases h : ∃ s xs E, Str s xs ∧ InIs zs 10 false xs E
  · obtain ⟨s, xs, E, h1, h2⟩ := h
    refine ⟨s, E, fun W p n cap hA => (digits_any p n cap zs W hA).mono ?_⟩
    rintro e w' ⟨t, ys, F, rfl, k1, k2, k3⟩
    obtain ⟨rfl, rfl⟩ := h2.one hz k2
    obtain rfl := h1.inj k1
    exact ⟨rfl, k3⟩
  · refine ⟨⟨#[]⟩, 0, fun W p n cap hA => (digits_any p n cap zs W hA).mono ?_⟩
    rintro e w' ⟨t, ys, F, rfl, k1, k2, k3⟩
    exact absurd ⟨t, ys, F, k1, k2⟩ h
theorem CC (zs : List Int) :
    ∃ m E, ∀ W p n cap, Arg W p n cap zs → Calls Tryd.prog 9 #[.slice p n cap] W fun e w' => e = .returned (.tuple #[.int .i64 m, .int .i64 E]) ∧ Below W.heap.size W w' := by
  by_cases h : ∃ m E, CountIs zs m E
  · obtain ⟨m, E, h2⟩ := h
    refine ⟨m, E, fun W p n cap hA => (count_says p n cap zs W hA).mono ?_⟩
    rintro e w' ⟨m', F, rfl, k2, k3⟩
    obtain ⟨rfl, rfl⟩ := count_one h2 k2
    exact ⟨rfl, k3⟩
  · refine ⟨0, 0, fun W p n cap hA => (count_says p n cap zs W hA).mono ?_⟩
    rintro e w' ⟨m', F, rfl, k2, k3⟩
    exact absurd ⟨m', F, k2⟩ h
/-- A list of one's own, between two blocks. -/
structure GI (lo hi : Nat) (W : World) (r : Option Addr) (os : List Int) : Prop where
  limbs : Nm.Limbs os
  len : os.length ≤ 4096
  ls : Ls lo W r os
  hi : ∀ a, r = some a → 0 < os.length → a.block < hi
theorem GI.on {lo hi : Nat} {W W' : World} {r : Option Addr} {os : List Int} (h : GI lo hi W r os) (hB : Below W.heap.size W W') : GI lo hi W' r os := ⟨h.limbs, h.len, h.ls.on hB, h.hi⟩
theorem GI.arg {lo hi : Nat} {W : World} {r : Option Addr} {os : List Int} (h : GI lo hi W r os) : Arg W r os.length os.length os := ⟨rfl, Nat.le_refl _, by have := h.len; omega, h.ls.1, h.limbs⟩
theorem GI.ke {lo hi : Nat} {W : World} {r : Option Addr} {os : List Int} (h : GI lo hi W r os) {b : Nat} (hb : (Ke.mk r os.length).blk = some b) : lo ≤ b ∧ b < hi := by
  obtain ⟨n0, a, ha, rfl⟩ := Ke.of_blk hb
  exact ⟨(h.ls.2 a ha n0).1, h.hi a ha n0⟩
theorem FromIs.gi {xs : List Int} {B : Int} {W W' : World} {r : Option Addr} {os : List Int} {a E : Int} (h : FromIs xs B W W' r os a E) : GI W.heap.size W'.heap.size W' r os := by
  have nil : GI W.heap.size W'.heap.size W' none [] := ⟨Nm.Limbs.nil, by simp, ⟨Lies.nil _ _, fun a ha => by cases ha⟩, fun a ha => by cases ha⟩
  cases h with
  | base _ => exact nil
  | empty _ _ _ => exact nil
  | digit t _ _ _ _ _ => exact nil
  | big _ _ _ _ _ => exact nil
  | ok r os _ _ _ _ hv hA =>
    refine ⟨hA.2.1, hA.smallT hv, ⟨hA.1, fun a ha h0 => ⟨(hA.2.2.2.2 a ha).1, (hA.2.2.2.2 a ha).2 h0⟩⟩, fun a ha h0 => hA.1.lt h0 a ha⟩
theorem CF (s : ByteArray) (xs : List Int) (B : Int) (hs : Str s xs) (hn : xs.length ≤ 140737488355329) (b0 : -9223372036854775808 ≤ B) (b1 : B ≤ 9223372036854775807) :
    ∃ n os a E, os.length = n ∧ ∀ W, Calls Tryd.prog 10 #[.string s, .int .i64 B] W fun e w' => ∃ r, e = .returned (.tuple #[.slice r n n, .int .i64 a, .int .i64 E]) ∧ GI W.heap.size w'.heap.size w' r os ∧ Below W.heap.size W w' := by
  by_cases h : ∃ w0 w1 r os a E, FromIs xs B w0 w1 r os a E
  · obtain ⟨w0, w1, r, os, a, E, h2⟩ := h
    refine ⟨_, os, a, E, rfl, fun W => (fromBase_any s xs B W hs hn b0 b1).mono ?_⟩
    rintro e w' ⟨r', os', a', F, rfl, k2, k3⟩
    obtain ⟨rfl, rfl, rfl⟩ := h2.one k2
    exact ⟨r', rfl, FromIs.gi k2, k3⟩
  · refine ⟨_, [], 0, 0, rfl, fun W => (fromBase_any s xs B W hs hn b0 b1).mono ?_⟩
    rintro e w' ⟨r', os', a', F, rfl, k2, k3⟩
    exact absurd ⟨_, _, _, _, _, _, k2⟩ h
theorem CR (s : ByteArray) (xs : List Int) (hs : Str s xs) (hn : xs.length ≤ 140737488355329) :
    ∃ n os a E, os.length = n ∧ ∀ W, Calls Tryd.prog 11 #[.string s] W fun e w' => ∃ r, e = .returned (.tuple #[.slice r n n, .int .i64 a, .int .i64 E]) ∧ GI W.heap.size w'.heap.size w' r os ∧ Below W.heap.size W w' := by
  by_cases h : ∃ w0 w1 r os a E, FromIs xs 10 w0 w1 r os a E
  · obtain ⟨w0, w1, r, os, a, E, h2⟩ := h
    refine ⟨_, os, a, E, rfl, fun W => (readOf_any s xs W hs hn).mono ?_⟩
    rintro e w' ⟨r', os', a', F, rfl, k2, k3⟩
    obtain ⟨rfl, rfl, rfl⟩ := h2.one k2
    exact ⟨r', rfl, FromIs.gi k2, k3⟩
  · refine ⟨_, [], 0, 0, rfl, fun W => (readOf_any s xs W hs hn).mono ?_⟩
    rintro e w' ⟨r', os', a', F, rfl, k2, k3⟩
    exact absurd ⟨_, _, _, _, _, _, k2⟩ h
/-- What stands while the list is asked. -/
structure St (w : World) (p : Option Addr) (n cap g : Nat) (zs ys : List Int) (W : World) : Prop where
  bel : Below w.heap.size w W
  own : Own W g ys
  lo : w.heap.size ≤ g
  arg : Arg W p n cap zs
  len : ys.length = n
  limbs : Nm.Limbs ys
  sm : n ≤ 17592186044000
section
variable {w W W' : World} {p : Option Addr} {n cap g : Nat} {zs ys : List Int}
theorem St.on (h : St w p n cap g zs ys W) (hB : Below W.heap.size W W') : St w p n cap g zs ys W' :=
  ⟨h.bel.trans (hB.mono h.bel.size), h.own.below hB h.own.lt, h.lo, h.arg.below hB (Nat.le_refl _), h.len, h.limbs, h.sm⟩
theorem St.ax (h : St w p n cap g zs ys W) : Arg W (some ⟨g, 0, none⟩) n n ys := own_arg h.own h.len h.sm h.limbs
theorem St.put (h : St w p n cap g zs ys W) (hg : ∀ a, p = some a → 0 < n → a.block < g) {i : Nat} (x : Int) (x0 : 0 ≤ x) (x1 : x < 18446744073709551616) : St w p n cap g zs (ys.set i x) (W.setCell ⟨g, i, none⟩ (.int .u64 x)) :=
  ⟨h.bel.setCell (p := ⟨g, i, none⟩) h.lo _, h.own.set i x, h.lo, h.arg.setF (fun h0 a ha => Nat.ne_of_lt (hg a ha (by have := h.arg.1; omega))) _, by rw [List.length_set]; exact h.len, h.limbs.set i x0 x1, h.sm⟩
end
theorem cop {W : World} {p : Option Addr} {n cap : Nat} {zs : List Int} (hA : Arg W p n cap zs) : Calls Tryd.prog 6 #[.slice p n cap] W fun e w' => ∃ g, e = .returned (.slice (some ⟨g, 0, none⟩) n n) ∧ (W.heap.size ≤ g ∧ Own w' g zs ∧ Arg w' (some ⟨g, 0, none⟩) n n zs) ∧ Below W.heap.size W w' := by
  have l1 := hA.1
  have l2 : n ≤ 17592186044000 := Nat.le_trans hA.2.1 hA.2.2.1
  refine (copied3_any p n cap zs W hA).mono ?_
  rintro e w' ⟨rfl, h1, h2, _⟩
  exact ⟨_, rfl, ⟨Nat.le_refl _, h1, own_arg h1 l1 l2 hA.2.2.2.2⟩, h2⟩
theorem sam {W : World} {p q : Option Addr} {n : Nat} {zs : List Int} (hA : Arg W p n n zs) (hB : Arg W q n n zs) : Calls Tryd.prog 12 #[.slice p n n, .slice q n n] W fun e w' => e = .returned (.bool true) ∧ Below W.heap.size W w' := by
  refine (same3_any p q n n n n zs zs W hA hB).mono ?_
  rintro r w' ⟨rfl, h⟩
  exact ⟨by simp, h⟩
end Kp
end Go.Proofs.YtbdilikdenhnkaaDoor

namespace Go.Proofs.YtbdilikdenhnkaaDoor
open Go Go.RowKit Go.Deep

namespace Kp
theorem pw5 {R : Ke → Ke → Prop} {a b c d e : Ke} (h1 : R a b) (h2 : R a c) (h3 : R a d) (h4 : R a e) (h5 : R b c) (h6 : R b d) (h7 : R b e) (h8 : R c d) (h9 : R c e) (h10 : R d e) : [a, b, c, d, e].Pairwise R := by
  simp [List.pairwise_cons, *]
theorem five {w W : World} {l1 l2 l3 l4 l5 h1 h2 h3 h4 h5 n1 n2 n3 n4 n5 : Nat} {r1 r2 r3 r4 r5 : Option Addr} {o1 o2 o3 o4 o5 : List Int} (hB : Below w.heap.size w W)
    (g1 : GI l1 h1 W r1 o1) (g2 : GI l2 h2 W r2 o2) (g3 : GI l3 h3 W r3 o3) (g4 : GI l4 h4 W r4 o4) (g5 : GI l5 h5 W r5 o5)
    (e1 : o1.length = n1) (e2 : o2.length = n2) (e3 : o3.length = n3) (e4 : o4.length = n4) (e5 : o5.length = n5)
    (q0 : w.heap.size ≤ l1) (p1 : l1 ≤ h1) (q1 : h1 ≤ l2) (p2 : l2 ≤ h2) (q2 : h2 ≤ l3) (p3 : l3 ≤ h3) (q3 : h3 ≤ l4) (p4 : l4 ≤ h4) (q4 : h4 ≤ l5) (q5 : h5 ≤ W.heap.size) (p5 : l5 ≤ h5) :
    Calls Tryd.prog 13 #[.slice (some ⟨W.heap.size, 0, none⟩) 5 5] (W.alloc (.cells #[.slice r1 n1 n1, .slice r2 n2 n2, .slice r3 n3 n3, .slice r4 n4 n4, .slice r5 n5 n5] 22)) fun e w' => e = .returned (.bool true) ∧ Below w.heap.size w w' := by
  subst e1 e2 e3 e4 e5
  have b1 := alloc_b2 W (.cells #[.slice r1 o1.length o1.length, .slice r2 o2.length o2.length, .slice r3 o3.length o3.length, .slice r4 o4.length o4.length, .slice r5 o5.length o5.length] 22)
  have hw := hB.size
  have D : ∀ {lo hi lo' hi' : Nat} {r r' : Option Addr} {os os' : List Int}, GI lo hi W r os → GI lo' hi' W r' os' → hi ≤ lo' → ∀ b, (Ke.mk r os.length).blk = some b → (Ke.mk r' os'.length).blk ≠ some b := fun g g' h b hb hb' => by
    have := g.ke hb
    have := g'.ke hb'
    omega
  refine (apart_any w.heap.size W.heap.size 5 5 [⟨r1, o1.length⟩, ⟨r2, o2.length⟩, ⟨r3, o3.length⟩, ⟨r4, o4.length⟩, ⟨r5, o5.length⟩] _ (heap_alloc_new W _) rfl (by omega) ?_ ?_ hw ?_ ?_).mono ?_
  · intro i e hi
    rcases i with _ | _ | _ | _ | _ | i
    · cases (show some (Ke.mk r1 o1.length) = some e from hi)
      exact ⟨o1, rfl, trivial, (g1.ls.on b1).low (by omega)⟩
    · cases (show some (Ke.mk r2 o2.length) = some e from hi)
      exact ⟨o2, rfl, trivial, (g2.ls.on b1).low (by omega)⟩
    · cases (show some (Ke.mk r3 o3.length) = some e from hi)
      exact ⟨o3, rfl, trivial, (g3.ls.on b1).low (by omega)⟩
    · cases (show some (Ke.mk r4 o4.length) = some e from hi)
      exact ⟨o4, rfl, trivial, (g4.ls.on b1).low (by omega)⟩
    · cases (show some (Ke.mk r5 o5.length) = some e from hi)
      exact ⟨o5, rfl, trivial, (g5.ls.on b1).low (by omega)⟩
    · cases (show none = some e from hi)
  · exact pw5 (D g1 g2 q1) (D g1 g3 (by omega)) (D g1 g4 (by omega)) (D g1 g5 (by omega)) (D g2 g3 q2) (D g2 g4 (by omega)) (D g2 g5 (by omega)) (D g3 g4 q3) (D g3 g5 (by omega)) (D g4 g5 q4)
  · intro e he b hb
    simp only [List.mem_cons, List.not_mem_nil, or_false] at he
    rcases he with rfl | rfl | rfl | rfl | rfl
    · have := g1.ke hb; omega
    · have := g2.ke hb; omega
    · have := g3.ke hb; omega
    · have := g4.ke hb; omega
    · have := g5.ke hb; omega
  · intro e he
    simp only [List.mem_cons, List.not_mem_nil, or_false] at he
    rcases he with rfl | rfl | rfl | rfl | rfl
    · have := g1.len; show o1.length ≤ _; omega
    · have := g2.len; show o2.length ≤ _; omega
    · have := g3.len; show o3.length ≤ _; omega
    · have := g4.len; show o4.length ≤ _; omega
    · have := g5.len; show o5.length ≤ _; omega
  · rintro e w' ⟨rfl, h⟩
    exact ⟨rfl, (hB.trans (b1.mono hw)).trans h⟩
end Kp
end Go.Proofs.YtbdilikdenhnkaaDoor

namespace Go.Proofs.YtbdilikdenhnkaaDoor
open Go Go.RowKit Go.Deep

theorem bel_onK {a b c : World} (h : Below a.heap.size a b) (k : Below b.heap.size b c) : Below a.heap.size a c := h.trans (k.mono h.size)

set_option maxRecDepth 100000 in
set_option maxHeartbeats 16000000 in
theorem numeralKeeps_law (a : Option Addr) (n cap : Nat) (zs : List Int) (s : ByteArray) (xs : List Int) (base : Int) (w : World) (hA : Arg w a n cap zs) (hc : cap ≤ 17592186043904) (hs : Str s xs) (hl : xs.length ≤ 140737488355328) (b0 : -9223372036854775808 ≤ base) (b1 : base ≤ 9223372036854775807) :
    Calls Tryd.prog 3 #[.slice a n cap, .string s, .int .i64 base] w fun e w' => e = .returned (.bool true) ∧ Below w.heap.size w w' := by
  have AW := hid (awake3_any w)
  have AO := hid (fun W (hB : Below w.heap.size w W) => hA.below hB (Nat.le_refl _))
  have KP := hid (fun W (hB : Below w.heap.size w W) => kept_any a n cap zs base W (AO.out W hB) hc b0 b1)
  have HB := hid (And.intro b0 b1)
  obtain ⟨sI, eI, hI⟩ := Kp.CI zs base false hA.2.2.2.2 b0 b1
  obtain ⟨sD, eD, hD⟩ := Kp.CD zs hA.2.2.2.2
  obtain ⟨mC, eC, hC⟩ := Kp.CC zs
  have IZ := hid hI
  have DZ := hid hD
  have CZ := hid hC
  have ss := hs.size
  obtain ⟨n1, o1, a1, e1, l1, f1⟩ := Kp.CF s xs base hs (by omega) b0 b1
  obtain ⟨n3, o3, a3, e3, l3, f3⟩ := Kp.CF (⟨#[49]⟩ ++ s) ([49] ++ xs) base (Kp.str_app rfl hs) (by simp; omega) b0 b1
  obtain ⟨n4, o4, a4, e4, l4, f4⟩ := Kp.CR s xs hs (by omega)
  have F1 := hid f1
  have F3 := hid f3
  have F4 := hid f4
  have HL := hid (And.intro l1 (And.intro l3 l4))
  have CAT : ∀ wx, (Op.stringOp .add (⟨#[49]⟩ : ByteArray) s).run Tryd.prog wx = .ok (.string (⟨#[49]⟩ ++ s)) wx := fun wx => run_string_add_sum wx _ _ (by have : (⟨#[49]⟩ : ByteArray).size = 1 := rfl; omega)
  have nb : (n : Int) ≤ 17592186043904 := by have := hA.2.1; omega
  clear hI hD hC f1 f3 f4 l1 l3 l4 hs hl hc b0 b1 hA ss
  go_enter Tryd.func3, Tryd.ntmps3
  go_wp2_with fail
  refine AW.out.mono ?_
  rintro e w1 ⟨rfl, B1⟩
  have U1 := hid B1
  clear B1 AW
  go_wp2_with fail
  refine (KP.out _ U1.out).mono ?_
  rintro e w2 ⟨rfl, B2⟩
  have U2 := hid (bel_onK U1.out B2)
  clear B2 KP U1
  go_wp2_with fail
  refine (Kp.cop (AO.out _ U2.out)).mono ?_
  rintro e w3 ⟨g, rfl, ⟨q1, q2, q3⟩, B3⟩
  have S3 : Hid (Kp.St w a n cap g zs zs w3) := ⟨bel_onK U2.out B3, q2, Nat.le_trans U2.out.size q1, AO.out _ (bel_onK U2.out B3), (AO.out _ U2.out).1, (AO.out _ U2.out).2.2.2.2, by have := (AO.out _ U2.out).2.1; have := (AO.out _ U2.out).2.2.1; omega⟩
  have FG : Hid (∀ a', a = some a' → 0 < n → a'.block < g) := fun a' ha h0 => Nat.lt_of_lt_of_le ((AO.out _ U2.out).2.2.2.1.lt (by rw [(AO.out _ U2.out).1]; exact h0) a' ha) q1
  clear q1 q2 q3 B3 U2 AO
  go_wp2_with fail
  refine (IZ.out _ _ _ _ S3.out.ax).mono ?_
  rintro e w4 ⟨rfl, B4⟩
  have S4 := hid (S3.out.on B4)
  clear B4 S3
  go_wp2_with fail
  refine (DZ.out _ _ _ _ S4.out.ax).mono ?_
  rintro e w5 ⟨rfl, B5⟩
  have S5 := hid (S4.out.on B5)
  clear B5 S4
  go_wp2_with fail
  refine (CZ.out _ _ _ _ S5.out.ax).mono ?_
  rintro e w6 ⟨rfl, B6⟩
  have S6 := hid (S5.out.on B6)
  clear B6 S5
  go_wp2_with fail
  go_loopg [15] n (fun m iv wr => ∃ (i : Nat) (ys : List Int), i + m = n ∧ iv = .int .i64 (i : Int) ∧ Hid (Kp.St w a n cap g zs ys wr))
  case atStart => exact ⟨0, zs, by omega, rfl, S6.out⟩
  case round =>
    obtain ⟨i, ys, hi, rfl, I⟩ := hrel
    clear S6
    by_cases il : i < n
    · have ili : (i : Int) < (n : Int) := by omega
      obtain ⟨x, hx⟩ : ∃ x, ys.getD i 0 = x := ⟨_, rfl⟩
      obtain ⟨y, hy⟩ : ∃ y, bits .xor .u64 x 21845 = y := ⟨_, rfl⟩
      have cx := I.out.own.cell i (by rw [I.out.len]; exact il)
      rw [hx] at cx
      have fx := I.out.own.free i
      have bx := I.out.limbs.at i
      rw [hx] at bx
      have by_ := Kp.xr_bd x bx.1 bx.2
      rw [hy] at by_
      have S7 := hid (I.out.put FG.out (i := i) y by_.1 by_.2)
      clear I hx bx by_
      go_wp2_with fail
      go_roundg (n - (i + 1))
      case measure => omega
      case rel => exact ⟨i + 1, _, by omega, by go_num, S7.out⟩
    · obtain rfl : i = n := by omega
      have ili : ¬ (i : Int) < (i : Int) := by omega
      obtain ⟨tI, fI, hI⟩ := Kp.CI ys base false I.out.limbs HB.out.1 HB.out.2
      obtain ⟨tD, fD, hD⟩ := Kp.CD ys I.out.limbs
      obtain ⟨kC, fC, hC⟩ := Kp.CC ys
      have IY := hid hI
      have DY := hid hD
      have CY := hid hC
      clear hI hD hC
      go_wp2_with fail
      refine (IY.out _ _ _ _ I.out.ax).mono ?_
      rintro e w7 ⟨rfl, B7⟩
      have S7 := hid (I.out.on B7)
      clear B7 I
      go_wp2_with fail
      refine (Kp.cop S7.out.ax).mono ?_
      rintro e w8 ⟨g8, rfl, ⟨_, _, q8⟩, B8⟩
      have Q8 := hid q8
      have S8 := hid (S7.out.on B8)
      clear B8 S7 q8
      go_wp2_with fail
      refine (IY.out _ _ _ _ Q8.out).mono ?_
      rintro e w9 ⟨rfl, B9⟩
      have S9 := hid (S8.out.on B9)
      clear B9 S8 Q8
      go_wp2_with fail
      refine (DY.out _ _ _ _ S9.out.ax).mono ?_
      rintro e w10 ⟨rfl, B10⟩
      have S10 := hid (S9.out.on B10)
      clear B10 S9
      go_wp2_with fail
      refine (Kp.cop S10.out.ax).mono ?_
      rintro e w11 ⟨g11, rfl, ⟨_, _, q8⟩, B8⟩
      have Q11 := hid q8
      have S11 := hid (S10.out.on B8)
      clear B8 S10 q8
      go_wp2_with fail
      refine (DY.out _ _ _ _ Q11.out).mono ?_
      rintro e w12 ⟨rfl, B9⟩
      have S12 := hid (S11.out.on B9)
      clear B9 S11 Q11
      go_wp2_with fail
      refine (CY.out _ _ _ _ S12.out.ax).mono ?_
      rintro e w13 ⟨rfl, B10⟩
      have S13 := hid (S12.out.on B10)
      clear B10 S12
      go_wp2_with fail
      refine (Kp.cop S13.out.ax).mono ?_
      rintro e w14 ⟨g14, rfl, ⟨_, _, q8⟩, B8⟩
      have Q14 := hid q8
      have S14 := hid (S13.out.on B8)
      clear B8 S13 q8
      go_wp2_with fail
      refine (CY.out _ _ _ _ Q14.out).mono ?_
      rintro e w15 ⟨rfl, B9⟩
      have S15 := hid (S14.out.on B9)
      clear B9 S14 Q14
      go_wp2_with fail
      refine (Kp.cop S15.out.arg).mono ?_
      rintro e w16 ⟨g16, rfl, ⟨_, _, q8⟩, B8⟩
      have Q16 := hid q8
      have S16 := hid (S15.out.on B8)
      clear B8 S15 q8
      go_wp2_with fail
      refine (CZ.out _ _ _ _ Q16.out).mono ?_
      rintro e w17 ⟨rfl, B9⟩
      have S17 := hid (S16.out.on B9)
      clear B9 S16 Q16
      go_wp2_with fail
      refine (Kp.cop S17.out.arg).mono ?_
      rintro e w18 ⟨g18, rfl, ⟨_, _, q8⟩, B8⟩
      have Q18 := hid q8
      have S18 := hid (S17.out.on B8)
      clear B8 S17 q8
      go_wp2_with fail
      refine (IZ.out _ _ _ _ Q18.out).mono ?_
      rintro e w19 ⟨rfl, B9⟩
      have S19 := hid (S18.out.on B9)
      clear B9 S18 Q18
      go_wp2_with fail
      refine (Kp.cop S19.out.arg).mono ?_
      rintro e w20 ⟨g20, rfl, ⟨_, _, q8⟩, B8⟩
      have Q20 := hid q8
      have S20 := hid (S19.out.on B8)
      clear B8 S19 q8
      go_wp2_with fail
      refine (DZ.out _ _ _ _ Q20.out).mono ?_
      rintro e w21 ⟨rfl, B9⟩
      have U21 := hid (S20.out.on B9).bel
      clear B9 S20 Q20 IZ DZ CZ IY DY CY
      go_wp2_with fail
      refine (F1.out _).mono ?_
      rintro e w22 ⟨r1, rfl, g1, B9⟩
      have G1 := hid g1
      have U22 := hid (bel_onK U21.out B9)
      have Z1 : Hid (w.heap.size ≤ w21.heap.size ∧ w21.heap.size ≤ w22.heap.size) := ⟨U21.out.size, B9.size⟩
      clear B9 g1 U21
      go_wp2_with fail
      refine (F1.out _).mono ?_
      rintro e w23 ⟨r2, rfl, g2, B9⟩
      have G2 := hid g2
      have G1 := hid (G1.out.on B9)
      have U23 := hid (bel_onK U22.out B9)
      have Z2 := hid B9.size
      clear B9 g2 U22
      go_wp2_with fail
      refine (F3.out _).mono ?_
      rintro e w24 ⟨r3, rfl, g3, B9⟩
      have G3 := hid g3
      have G1 := hid (G1.out.on B9)
      have G2 := hid (G2.out.on B9)
      have U24 := hid (bel_onK U23.out B9)
      have Z3 := hid B9.size
      clear B9 g3 U23
      go_wp2_with fail
      refine (F4.out _).mono ?_
      rintro e w25 ⟨r4, rfl, g4, B9⟩
      have G4 := hid g4
      have G1 := hid (G1.out.on B9)
      have G2 := hid (G2.out.on B9)
      have G3 := hid (G3.out.on B9)
      have U25 := hid (bel_onK U24.out B9)
      have Z4 := hid B9.size
      clear B9 g4 U24
      go_wp2_with fail
      refine (F4.out _).mono ?_
      rintro e w26 ⟨r5, rfl, g5, B9⟩
      have G5 := hid g5
      have G1 := hid (G1.out.on B9)
      have G2 := hid (G2.out.on B9)
      have G3 := hid (G3.out.on B9)
      have G4 := hid (G4.out.on B9)
      have U26 := hid (bel_onK U25.out B9)
      have Z5 := hid B9.size
      clear B9 g5 U25 F1 F3 F4
      have A1 : Hid (Arg w26 r1 n1 n1 o1) := by have := G1.out.arg; rw [HL.out.1] at this; exact this
      have A2 : Hid (Arg w26 r2 n1 n1 o1) := by have := G2.out.arg; rw [HL.out.1] at this; exact this
      have A4 : Hid (Arg w26 r4 n4 n4 o4) := by have := G4.out.arg; rw [HL.out.2.2] at this; exact this
      have A5 : Hid (Arg w26 r5 n4 n4 o4) := by have := G5.out.arg; rw [HL.out.2.2] at this; exact this
      go_wp2_with fail
      refine (Kp.sam A1.out A2.out).mono ?_
      rintro e w27 ⟨rfl, B9⟩
      have G1 := hid (G1.out.on B9)
      have G2 := hid (G2.out.on B9)
      have G3 := hid (G3.out.on B9)
      have G4 := hid (G4.out.on B9)
      have G5 := hid (G5.out.on B9)
      have U27 := hid (bel_onK U26.out B9)
      have Z6 := hid B9.size
      have A4 := hid (A4.out.below B9 (Nat.le_refl _))
      have A5 := hid (A5.out.below B9 (Nat.le_refl _))
      clear B9 A1 A2 U26
      go_wp2_with fail
      refine (Kp.sam A4.out A5.out).mono ?_
      rintro e w28 ⟨rfl, B9⟩
      have AP := hid (Kp.five (bel_onK U27.out B9) (G1.out.on B9) (G2.out.on B9) (G3.out.on B9) (G4.out.on B9) (G5.out.on B9) HL.out.1 HL.out.1 HL.out.2.1 HL.out.2.2 HL.out.2.2 Z1.out.1 Z1.out.2 (Nat.le_refl _) Z2.out (Nat.le_refl _) Z3.out (Nat.le_refl _) Z4.out (Nat.le_refl _) (Nat.le_trans Z6.out B9.size) Z5.out)
      clear B9 A4 A5 U27 G1 G2 G3 G4 G5
      go_wp2_with fail
      refine AP.out.mono ?_
      rintro e w29 ⟨rfl, B9⟩
      have K := hid B9
      clear B9 AP
      go_wp2_with fail
      go_ret
      exact ⟨rfl, K.out⟩
end Go.Proofs.YtbdilikdenhnkaaDoor
