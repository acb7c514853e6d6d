/-
  layer 2's reference: Root.
-/
import Derived.Test.YthfechigdiefpaaDoorQRef3
import Derived.Test.YthfechigdiefpaaDoorQRootNum
import Derived.Test.YthfechigdiefpaaDoorFromW
import Derived.OwnWalk
import Derived.Deep.LoopGhost
namespace Go.Proofs.YthfechigdiefpaaDoor
open Go.RowKit Go.Deep

/-- An append whose run is known. -/
theorem wpList_append_r {ty : TypeId} {ops : Array Oper} {rest : List Oper} {o : Oper} {a : Act} {Q : Exit → Act → World → Prop} (hgd : o.guard = none) (s x : Operand)
    (ho : o.op = .call { callee := .builtin .append, args := #[s, x], argTypes := #[ty, ty] }) {v y v' : Value} {w w' : World} (hr : (Builtin.append_ #[ty, ty] o.type #[v, y]).run Tryd.prog w = .ok v' w') (hs : a.eval s = v) (hx : a.eval x = y)
    (h : wpList Tryd.prog ops Q rest (a.put o.dst v') w') : wpList Tryd.prog ops Q (o :: rest) a w := by
  refine wpList_plain hgd fun K hK => ?_
  unfold Oper.wp execOp
  simp only [ho, resolve, invoke, builtin, Sem.run_bind, Sem.run_pure, Result.andThen_ok, List.map_toArray, List.map_cons, List.map_nil, hs, hx, hr]
  exact hK _ _ h

/-- A trimmed list that fills a block of its own. -/
structure Tri (w : World) (g : Nat) (us : List Int) (v : Int) : Prop where
  own : Own w g us
  lim : Nm.Limbs us
  ts : Nm.tsize us = us.length
  val : Nm.val us = v

theorem Tri.below {w w' : World} {g : Nat} {us : List Int} {v : Int} (h : Tri w g us v) (hb : Below w.heap.size w w') : Tri w' g us v := ⟨h.own.below hb h.own.lt, h.lim, h.ts, h.val⟩

theorem Tri.ans {w : World} {g B : Nat} {us : List Int} {v : Int} (h : Tri w g us v) (hB : B ≤ g) : Ans B w (some ⟨g, 0, none⟩) us v := ⟨h.own.lies, h.lim, h.ts, h.val, fun a ha => by cases ha; exact hB⟩

theorem Tri.arg {w : World} {g : Nat} {us : List Int} {v : Int} (h : Tri w g us v) (hs : us.length ≤ 17592186044416) : Arg w (some ⟨g, 0, none⟩) us.length us.length us := ⟨rfl, Nat.le_refl _, hs, h.own.lies, h.lim⟩

theorem short_tri (p : Option Addr) (n cap : Nat) (zs : List Int) (w : World) (hn : zs.length = n) (hm : n ≤ 17592186044416) (h : Lies w p zs) (hz : Nm.Limbs zs) (v : Int) (hv : Nm.val zs = v) :
    Calls Tryd.prog 9 #[.slice p n cap] w fun e w' => ∃ g us, e = .returned (.slice (some ⟨g, 0, none⟩) (List.length us) (List.length us)) ∧ Hid (Tri w' g us v ∧ w.heap.size ≤ g ∧ Below w.heap.size w w') := by
  refine (short_any p n cap zs _ w hn hm h rfl).mono ?_
  rintro e w' ⟨rfl, o, d⟩
  exact ⟨w.heap.size, Nm.trim zs, by rw [Nm.trim_length], ⟨o, hz.trim, by rw [Nm.trim_trim, Nm.trim_length], by rw [Nm.val_trim, hv]⟩, Nat.le_refl _, d⟩

/-- doubled, its block under a name. -/
theorem doubled_some (p : Option Addr) (n cap : Nat) (zs : List Int) (bit : Int) (w : World) (hn : zs.length = n) (hm : n ≤ 17592186044416) (h : Lies w p zs) (hz : Nm.Limbs zs) (b0 : 0 ≤ bit) (b1 : bit ≤ 1) (v : Int) (hv : 2 * Nm.val zs + bit = v) :
    Calls Tryd.prog 32 #[.slice p n cap, .int .u64 bit] w fun e w' => ∃ g os, e = .returned (.slice (some ⟨g, 0, none⟩) (n + 1) (n + 1)) ∧ Hid (Lies w' (some ⟨g, 0, none⟩) os ∧ os.length = n + 1 ∧ Nm.Limbs os ∧ Nm.val os = v ∧ Below w.heap.size w w') := by
  refine (doubled_any p n cap zs bit w hn hm h hz b0 b1).mono ?_
  rintro e w' ⟨os, rfl, K⟩
  obtain ⟨k1, k2, k3, k4, k5⟩ := K.out
  exact ⟨_, os, rfl, k1.lies, k2, k3, by rw [k4, hv], k5⟩

theorem len_of {B : Nat} {w : World} {p : Option Addr} {ys : List Int} {n : Int} (h : Ans B w p ys n) {k : Nat} (hn : n < Nm.pw k) : ys.length ≤ k := by
  rw [← h.2.2.1]
  exact (Nm.tsize_le_iff h.2.1 k).2 (by rw [h.2.2.2.1]; exact hn)

theorem Tri.len {w : World} {g : Nat} {us : List Int} {v : Int} (h : Tri w g us v) {k : Nat} (hn : v < Nm.pw k) : us.length ≤ k := by
  rw [← h.ts]
  exact (Nm.tsize_le_iff h.lim k).2 (by rw [h.val]; exact hn)

theorem Tri.long {w : World} {g g' : Nat} {us ts : List Int} {v v' : Int} (h : Tri w g us v) (k : Tri w g' ts v') (hle : v' ≤ v) : ts.length ≤ us.length := by
  rw [← h.ts, ← k.ts]
  refine (Nm.tsize_le_iff k.lim _).2 ?_
  have := Nm.val_lt_tsize h.lim
  rw [h.val] at this
  rw [k.val]
  omega

theorem Tri.near {w : World} {g g' : Nat} {us ts : List Int} {v v' : Int} (h : Tri w g us v) (k : Tri w g' ts v') (hlt : v < 18446744073709551616 * v') : us.length ≤ ts.length + 1 := by
  rw [← h.ts, ← k.ts]
  refine (Nm.tsize_le_iff h.lim _).2 ?_
  have := Nm.val_lt_tsize k.lim
  rw [k.val] at this
  rw [h.val, Nm.pw_succ]
  omega

theorem rroot_big (p : Option Addr) (n cap : Nat) (za : List Int) (w : World) (ha : Arg w p n cap za) (tz : 256 < Nm.tsize za) :
    Calls Tryd.prog 15 #[.slice p n cap] w fun e w' => e = .returned (.tuple #[.slice none 0 0, .bool false, .int .i64 2]) ∧ w' = w := by
  have hn := ha.2.1
  have hn' := ha.2.2.1
  have h1' : (256 : Int) < (Nm.tsize za : Int) := by omega
  have HL := hid (top_any p n cap za w ha.1 (by omega) ha.2.2.2.1)
  clear ha tz
  go_enter Tryd.func15, Tryd.ntmps15
  go_wp2_with fail
  refine HL.out.mono ?_
  rintro e w' ⟨rfl, rfl⟩
  go_wp2_with fail
  go_ret3
  exact ⟨rfl, rfl⟩

theorem and3 (x : Int) (h0 : 0 ≤ x) (h1 : x < 18446744073709551616) : bits .and .u64 x 3 = x % 4 := by
  obtain ⟨n, rfl⟩ := Int.eq_ofNat_of_zero_le h0
  have h := bits_and_u64_nat n 3 (by omega) (by omega)
  have e : n &&& 3 = n % 4 := Nat.and_two_pow_sub_one_eq_mod n 2
  rw [e] at h
  rw [show (3 : Int) = ((3 : Nat) : Int) from rfl, h]
  omega

theorem and1 (x : Int) (h0 : 0 ≤ x) (h1 : x < 18446744073709551616) : bits .and .u64 x 1 = x % 2 := by
  obtain ⟨n, rfl⟩ := Int.eq_ofNat_of_zero_le h0
  have h := bits_and_u64_nat n 1 (by omega) (by omega)
  have e : n &&& 1 = n % 2 := Nat.and_two_pow_sub_one_eq_mod n 1
  rw [e] at h
  rw [show (1 : Int) = ((1 : Nat) : Int) from rfl, h]
  omega

/-- How long the lists may be. -/
theorem rn_room {A R S : Int} {j : Nat} (h : Rn.Inv (A / 4 ^ j) R S) (hA0 : 0 ≤ A) (hA : A < Nm.pw 256) : R < Nm.pw 256 ∧ S < Nm.pw 257 ∧ 4 * S + 3 < Nm.pw 258 ∧ 4 * R + 1 < Nm.pw 257 := by
  obtain ⟨h1, h2, h3, h4⟩ := h
  have h5 : A / 4 ^ j ≤ A := Int.ediv_le_self _ hA0
  have h6 : R ≤ R * R := by
    rcases (show R = 0 ∨ 1 ≤ R by omega) with h | h
    · subst h; omega
    · have : R * 1 ≤ R * R := Int.mul_le_mul_of_nonneg_left h h1
      omega
  have e1 := Nm.pw_succ 256
  have e2 := Nm.pw_succ 257
  have e3 := Nm.pw_pos 256
  rw [show (256 + 1 : Nat) = 257 from rfl] at e1
  rw [show (257 + 1 : Nat) = 258 from rfl] at e2
  generalize Nm.pw 258 = x at *
  generalize Nm.pw 257 = y at *
  generalize Nm.pw 256 = z at *
  omega

theorem ret_root2 {t : Option Addr} {k : Nat} {b c : Bool} {e : Int} (h : b = c) : Ending.returned (.tuple #[.slice t k k, .bool b, .int .i64 e]) = .returned (.tuple #[.slice t k k, .bool c, .int .i64 e]) := by rw [h]

set_option maxRecDepth 100000 in
set_option maxHeartbeats 8000000 in
theorem rroot_ok (p : Option Addr) (n cap : Nat) (za : List Int) (A : Int) (w : World) (ha : Arg w p n cap za) (tz : Nm.tsize za ≤ 256) (hA : Nm.val za = A) :
    Calls Tryd.prog 15 #[.slice p n cap] w fun e w' => ∃ t os R, e = .returned (.tuple #[.slice t (List.length os) (List.length os), .bool (decide (R * R = A)), .int .i64 0]) ∧ Ans w.heap.size w' t os R ∧ Hid (0 ≤ R ∧ R * R ≤ A ∧ A < (R + 1) * (R + 1)) ∧ Below w.heap.size w w' := by
  have hn := ha.2.1
  have hn' := ha.2.2.1
  have htl := ha.tl
  obtain ⟨N, HN⟩ : ∃ N, Hid (Nm.tsize za = N) := ⟨_, rfl⟩
  have T := top_any p n cap za w ha.1 (by omega) ha.2.2.2.1
  rw [HN.out] at T htl
  have HT := hid T
  have hN : (N : Int) ≤ 256 := by have := HN.out; omega
  have A0 := (Nm.val_bd za ha.2.2.2.2).1
  have A1 := Nm.val_lt_tsize ha.2.2.2.2
  have A2 : A < Nm.pw 256 := by rw [← hA]; exact (Nm.tsize_le_iff ha.2.2.2.2 256).1 tz
  rw [hA] at A0
  rw [hA, HN.out] at A1
  have ST := hid (Rn.start A N A0 A1)
  have HA := hid ha
  have HV := hid hA
  have HA0 := hid A0
  have HA2 := hid A2
  clear ha hA tz T A1 A2 A0
  go_enter Tryd.func15, Tryd.ntmps15
  go_wp2_with fail
  refine HT.out.mono ?_
  rintro e w' ⟨rfl, rfl⟩
  go_wp2_with fail
  go_loopg [6, 7, 8] (32 * N) (fun j a c i wr => ∃ (r : Option Addr) (os : List Int) (s : Option Addr) (us : List Int) (R S : Int), a = .slice r (List.length os) (List.length os) ∧ c = .slice s (List.length us) (List.length us) ∧ i = .int .i64 ((j : Int) - 1) ∧ j ≤ 32 * N ∧ Hid (Ans w'.heap.size wr r os R) ∧ Hid (Ans w'.heap.size wr s us S) ∧ Hid (Rn.Inv (A / 4 ^ j) R S) ∧ Hid (Below w'.heap.size w' wr))
  case atStart => exact ⟨none, [], none, [], 0, 0, rfl, rfl, by go_num, Nat.le_refl _, ans_none _ _ _ (fun a h => by cases h), ans_none _ _ _ (fun a h => by cases h), by show Rn.Inv _ _ _; rw [ST.out]; exact ⟨by omega, by omega, by omega, by omega⟩, Below.refl _ _⟩
  case round =>
    obtain ⟨r, os, s, us, R, S, rfl, rfl, rfl, hj, HO, HU, RI, D⟩ := hrel
    cases gk with
    | zero =>
      have F : Hid ((decide (S = 0) = decide (R * R = A)) ∧ (0 ≤ R ∧ R * R ≤ A ∧ A < (R + 1) * (R + 1))) := by
        have h := RI.out
        rw [Int.pow_zero, Int.ediv_one] at h
        refine ⟨?_, h.root⟩
        have h3 := h.2.2.1
        by_cases hs : S = 0
        · simp [hs]; omega
        · simp [hs]; omega
      have hus : Hid (us.length ≤ 257) := len_of HU.out (rn_room RI.out HA0.out HA2.out).2.1
      have hSZ : Hid (decide (((Nm.tsize us : Int)) = 0) = decide (S = 0)) := by
        have h1 := Nm.tsize_zero_iff HU.out.2.1
        rw [HU.out.2.2.2.1] at h1
        by_cases hs : S = 0
        · simp [Hid, hs, h1.2 hs]
        · have : Nm.tsize us ≠ 0 := fun h => hs (h1.1 h)
          simp [Hid, hs]; omega
      go_wp2_with fail
      refine (top_any s _ _ us _ rfl (by have := hus.out; omega) HU.out.1).mono ?_
      rintro e w2 ⟨rfl, rfl⟩
      go_wp2_with fail
      go_ret3
      exact ⟨r, os, R, ret_root2 (by rw [← F.out.1, ← hSZ.out, Bool.eq_iff_iff]; simp), HO.out, F.out.2, D.out⟩
    | succ t =>
      rw [show ((t + 1 : Nat) : Int) - 1 = (t : Int) by omega]
      have HAr := hid (HA.out.below D.out (Nat.le_refl _))
      obtain ⟨b, off, hp, hbw, HC⟩ := HAr.out.2.2.2.1.at (by have := HAr.out.1; omega)
      subst hp
      obtain ⟨k, hk⟩ : ∃ k, t / 32 = k := ⟨_, rfl⟩
      obtain ⟨e, he⟩ : ∃ e, t % 32 = e := ⟨_, rfl⟩
      obtain ⟨sh, hsh⟩ : ∃ sh, 2 * e = sh := ⟨_, rfl⟩
      have hkn : k < n := by omega
      obtain ⟨x, hx, X⟩ : ∃ x, wr.cell? ⟨b, off + k, none⟩ = some (.int .u64 x) ∧ Hid (x = za.getD k 0) := ⟨_, HC.out k (by have := HAr.out.1; omega), rfl⟩
      have hx0 := HA.out.2.2.2.2.at k
      rw [← X.out] at hx0
      have hy0 : 0 ≤ x / 2 ^ sh := Int.ediv_nonneg hx0.1 (Int.le_of_lt (Nm.two_pos sh))
      have hy1 : x / 2 ^ sh ≤ x := Int.ediv_le_self _ hx0.1
      obtain ⟨y, q4⟩ : ∃ y, x / 2 ^ sh = y := ⟨_, rfl⟩
      rw [q4] at hy0 hy1
      have q5 := and3 y hy0 (by omega)
      obtain ⟨pr, hpr⟩ : ∃ pr, y % 4 = pr := ⟨_, rfl⟩
      rw [hpr] at q5
      have pr0 : 0 ≤ pr := by omega
      have pr1 : pr ≤ 3 := by omega
      have q6 := and1 pr pr0 (by omega)
      obtain ⟨pb, hpb⟩ : ∃ pb, pr % 2 = pb := ⟨_, rfl⟩
      rw [hpb] at q6
      have pb0 : 0 ≤ pb := by omega
      have pb1 : pb ≤ 1 := by omega
      have q1 : (t : Int) / 32 = (k : Int) := by omega
      have q1t : (t : Int).tdiv 32 = (k : Int) := by rw [Int.tdiv_eq_ediv_of_nonneg (by omega)]; exact q1
      have q2 : (t : Int) % 32 = (e : Int) := by omega
      have q2t : (t : Int).tmod 32 = (e : Int) := by rw [Int.tmod_eq_emod_of_nonneg (by omega)]; exact q2
      have q3 : 2 * (e : Int) = (sh : Int) := by omega
      have PR : Hid (A / 4 ^ t = 4 * (A / 4 ^ (t + 1)) + pr) := by
        show _ = _
        have h1 := Rn.pair_at za t k e sh (by omega) (by omega) hsh.symm HA.out.2.2.2.2 (by have := HA.out.1; omega)
        rw [HV.out, ← X.out, q4, hpr] at h1
        have h2 := Rn.down A t
        omega
      have PB : Hid (2 * (pr / 2) + pb = pr) := by show _ = _; omega
      have hsh62 : (sh : Int) ≤ 62 := by omega
      have hkn' : (k : Int) < (n : Int) := by omega
      have RO := hid (rn_room RI.out HA0.out HA2.out)
      have lus : us.length ≤ 257 := len_of HU.out RO.out.2.1
      have los : os.length ≤ 256 := len_of HO.out RO.out.1
      obtain ⟨hx0, hx1⟩ := hx0
      clear hk he hsh hpr hpb HC HAr
      go_wp2_with fail
      refine (doubled_some s _ _ us (pr / 2) _ rfl (by omega) HU.out.1 HU.out.2.1 (by omega) (by omega) (2 * S + pr / 2) (by rw [HU.out.2.2.2.1])).mono ?_
      rintro e1 w1 ⟨g1, l1, rfl, K1⟩
      have D1 := hid (chain D.out K1.out.2.2.2.2 (Nat.le_refl _))
      have HO1 := hid (HO.out.below K1.out.2.2.2.2 (Nat.le_refl _))
      clear q1 q1t q2 q2t q3 q4 q5 hx HO HU D
      go_wp2_with fail
      refine (doubled_some (some ⟨g1, 0, none⟩) _ _ l1 pb _ K1.out.2.1 (by omega) K1.out.1 K1.out.2.2.1 pb0 pb1 (4 * S + pr) (by rw [K1.out.2.2.2.1]; have := PB.out; omega)).mono ?_
      rintro e2 w2 ⟨g2, l2, rfl, K2⟩
      have D2 := hid (chain D1.out K2.out.2.2.2.2 (Nat.le_refl _))
      have HO2 := hid (HO1.out.below K2.out.2.2.2.2 (Nat.le_refl _))
      clear q6 K1 HO1 D1
      go_wp2_with fail
      refine (short_tri (some ⟨g2, 0, none⟩) _ _ l2 _ K2.out.2.1 (by omega) K2.out.1 K2.out.2.2.1 (4 * S + pr) K2.out.2.2.2.1).mono ?_
      rintro e3 w3 ⟨g3, vs, rfl, K3⟩
      have D3 := hid (chain D2.out K3.out.2.2 (Nat.le_refl _))
      have HO3 := hid (HO2.out.below K3.out.2.2 (Nat.le_refl _))
      have TR := hid K3.out.1
      have hg3 : Hid (w'.heap.size ≤ g3) := Nat.le_trans D2.out.size K3.out.2.1
      have hw23 : Hid (w2.heap.size ≤ g3) := K3.out.2.1
      have hrs : Hid (∀ a, r = some a → 0 < os.length → a.block < g3) := fun a h h0 => Nat.lt_of_lt_of_le (HO2.out.1.lt h0 a h) hw23.out
      clear K2 K3 HO2 D2
      go_wp2_with fail
      refine (doubled_some r _ _ os 0 _ rfl (by omega) HO3.out.1 HO3.out.2.1 (by omega) (by omega) (2 * R) (by rw [HO3.out.2.2.2.1]; omega)).mono ?_
      rintro e4 w4 ⟨g4, l4, rfl, K4⟩
      have D4 := hid (chain D3.out K4.out.2.2.2.2 (Nat.le_refl _))
      have HO4 := hid (HO3.out.below K4.out.2.2.2.2 (Nat.le_refl _))
      have TR4 := hid (TR.out.below K4.out.2.2.2.2)
      clear HO3 D3 TR
      go_wp2_with fail
      refine (doubled_some (some ⟨g4, 0, none⟩) _ _ l4 1 _ K4.out.2.1 (by omega) K4.out.1 K4.out.2.2.1 (by omega) (by omega) (4 * R + 1) (by rw [K4.out.2.2.2.1]; omega)).mono ?_
      rintro e5 w5 ⟨g5, l5, rfl, K5⟩
      have D5 := hid (chain D4.out K5.out.2.2.2.2 (Nat.le_refl _))
      have HO5 := hid (HO4.out.below K5.out.2.2.2.2 (Nat.le_refl _))
      have TR5 := hid (TR4.out.below K5.out.2.2.2.2)
      clear K4 HO4 D4 TR4
      go_wp2_with fail
      refine (short_tri (some ⟨g5, 0, none⟩) _ _ l5 _ K5.out.2.1 (by omega) K5.out.1 K5.out.2.2.1 (4 * R + 1) K5.out.2.2.2.1).mono ?_
      rintro e6 w6 ⟨g6, ts, rfl, K6⟩
      have D6 := hid (chain D5.out K6.out.2.2 (Nat.le_refl _))
      have HO6 := hid (HO5.out.below K6.out.2.2 (Nat.le_refl _))
      have TR6 := hid (TR5.out.below K6.out.2.2)
      have TT6 := hid K6.out.1
      have hg36 : g3 ≠ g6 := by have := TR5.out.own.lt; have := K6.out.2.1; omega
      clear K5 K6 HO5 D5 TR5
      have lvs : vs.length ≤ 258 := TR6.out.len (by have := RO.out.2.2.1; omega)
      have lts : ts.length ≤ 257 := TT6.out.len RO.out.2.2.2
      obtain ⟨c, HCC⟩ : ∃ c, Hid (cmpI (4 * S + pr) (4 * R + 1) = c) := ⟨_, rfl⟩
      go_wp2_with fail
      refine (order_is c _ _ _ _ _ _ vs ts _ (TR6.out.arg (by omega)) (TT6.out.arg (by omega)) (by rw [TR6.out.val, TT6.out.val]; exact HCC.out)).mono ?_
      rintro e7 w7 ⟨rfl, d7⟩
      have D7 := hid (chain D6.out d7 (Nat.le_refl _))
      have HO7 := hid (HO6.out.below d7 (Nat.le_refl _))
      have TR7 := hid (TR6.out.below d7)
      have TT7 := hid (TT6.out.below d7)
      clear d7 HO6 D6 TR6 TT6
      by_cases hge : 4 * R + 1 ≤ 4 * S + pr
      · have hc0 : 0 ≤ c := by
          rw [← HCC.out]
          rcases (show 4 * S + pr = 4 * R + 1 ∨ 4 * R + 1 < 4 * S + pr by omega) with h | h
          · rw [cmpI_eq h]; omega
          · rw [cmpI_gt h]; omega
        have RI2 := hid (Rn.step_one RI.out pr1 hge)
        rw [← PR.out] at RI2
        have hlong := TR7.out.long TT7.out hge
        have hnear := TR7.out.near TT7.out (by have := RI.out; obtain ⟨i1, i2, i3, i4⟩ := this; omega)
        have hvs0 : 0 < vs.length := by
          have h1 := TR7.out.ts
          have h2 := Nm.tsize_zero_iff TR7.out.lim
          rw [TR7.out.val] at h2
          have := RI.out.1
          omega
        have HGE := hid hge
        clear hge
        have rest_of_round : ∀ (w8 : World) (g8 cap8 M : Nat) (ms : List Int), Below w7.heap.size w7 w8 → Lies w8 (some ⟨g8, 0, none⟩) ms → ms.length = vs.length → Nm.Limbs ms → Nm.val ms = 4 * R + 1 → g8 ≠ g3 → M = vs.length →
            Calls Tryd.prog 34 #[.slice (some ⟨g3, 0, none⟩) vs.length vs.length, .int .i64 0, .slice (some ⟨g8, 0, none⟩) M cap8] w8 fun e w9 => ∃ os9, e = .returned (.tuple #[]) ∧ Hid (Own w9 g3 os9 ∧ os9.length = vs.length ∧ Nm.Limbs os9 ∧ Nm.val os9 = 4 * S + pr - (4 * R + 1) ∧ Below w'.heap.size w' w9 ∧ Ans w'.heap.size w9 r os R) := by
          intro w8 g8 cap8 M ms d8 m1 m2 m3 m4 hg8 hM
          subst hM
          have o8 := TR7.out.below d8
          refine (takeOff_any g3 vs.length vs.length vs.length vs.length cap8 0 vs (some ⟨g8, 0, none⟩) ms 0 w8 o8.own rfl (Nat.le_refl _) (by omega) m2 hvs0 (by omega) o8.lim m1 m3 (fun a h => by cases h; exact hg8) rfl (by rw [m4, o8.val]; simp only [Nm.pw, Int.one_mul]; exact HGE.out) (by rw [Nat.zero_add]; exact (Nm.val_bd vs o8.lim).2)).mono ?_
          rintro e w9 ⟨os9, rfl, P⟩
          obtain ⟨p1, p2, p3, p4, p5, p6, p7⟩ := P.out
          rw [o8.val, m4] at p4
          simp only [Nm.pw, Int.one_mul] at p4
          have c8 := chain D7.out d8 (Nat.le_refl _)
          refine ⟨os9, rfl, p1, p2, p3, p4, c8.trans (p5.mono hg3.out), ?_⟩
          have a8 := HO7.out.below d8 (Nat.le_refl _)
          rcases Nat.eq_zero_or_pos os.length with h0 | h0
          · have : os = [] := List.eq_nil_of_length_eq_zero h0
            exact ⟨by rw [this]; exact Lies.nil _ _, a8.2⟩
          · exact ⟨a8.1.low p5 (fun a h => hrs.out a h h0), a8.2⟩
        have RR := hid rest_of_round
        clear rest_of_round
        rcases (show ts.length = vs.length ∨ vs.length = ts.length + 1 by omega) with hEq | hEq
        · have hnl : ¬ (ts.length : Int) < (vs.length : Int) := by omega
          have TO := hid (RR.out w7 g6 ts.length ts.length ts (Below.refl _ _) TT7.out.own.lies hEq TT7.out.lim TT7.out.val (fun h => hg36 h.symm) hEq)
          have HEQ := hid hEq
          clear hEq
          go_wp2_with fail
          refine wp_loop_rounds 1 ?_
          rw [rounds_succ]
          go_wp2_with fail
          refine TO.out.mono ?_
          rintro e9 w9 ⟨os9, rfl, P⟩
          clear TO
          go_wp2_with fail
          refine (short_tri (some ⟨g3, 0, none⟩) vs.length vs.length os9 _ P.out.2.1 (by omega) P.out.1.lies P.out.2.2.1 (4 * S + pr - (4 * R + 1)) P.out.2.2.2.1).mono ?_
          rintro e10 w10 ⟨g10, xs, rfl, K10⟩
          have D10 := hid (chain P.out.2.2.2.2.1 K10.out.2.2 (Nat.le_refl _))
          have HO10 := hid (P.out.2.2.2.2.2.below K10.out.2.2 (Nat.le_refl _))
          have TX := hid K10.out.1
          have hg10 : Hid (w'.heap.size ≤ g10) := Nat.le_trans P.out.2.2.2.2.1.size K10.out.2.1
          clear P K10
          go_wp2_with fail
          refine (doubled_some r _ _ os 1 _ rfl (by omega) HO10.out.1 HO10.out.2.1 (by omega) (by omega) (2 * R + 1) (by rw [HO10.out.2.2.2.1])).mono ?_
          rintro e11 w11 ⟨g11, l11, rfl, K11⟩
          have D11 := hid (chain D10.out K11.out.2.2.2.2 (Nat.le_refl _))
          have TX11 := hid (TX.out.below K11.out.2.2.2.2)
          clear HO10 TX D10
          go_wp2_with fail
          refine (short_tri (some ⟨g11, 0, none⟩) _ _ l11 _ K11.out.2.1 (by omega) K11.out.1 K11.out.2.2.1 (2 * R + 1) K11.out.2.2.2.1).mono ?_
          rintro e12 w12 ⟨g12, rs, rfl, K12⟩
          have D12 := hid (chain D11.out K12.out.2.2 (Nat.le_refl _))
          have TX12 := hid ((TX11.out.below K12.out.2.2).ans (B := w'.heap.size) hg10.out)
          have TS12 := hid (K12.out.1.ans (B := w'.heap.size) (Nat.le_trans D11.out.size K12.out.2.1))
          clear K11 K12 D11 TX11 RR
          go_wp2_with fail
          go_roundg t
          case measure => omega
          case rel => exact ⟨_, rs, _, xs, 2 * R + 1, 4 * S + pr - (4 * R + 1), rfl, rfl, by go_num, by omega, TS12.out, TX12.out, RI2.out, D12.out⟩
        · have hnl : (ts.length : Int) < (vs.length : Int) := by omega
          have hnl2 : ¬ ((ts.length : Int) + 1) < (vs.length : Int) := by omega
          obtain ⟨c8, w8, ap, hc8, o8, d8⟩ := grow64 g6 ts.length ts 0 w7 rfl (by omega) TT7.out.own
          have AP := hid ap
          have hl8 : Lies w8 (some ⟨w7.heap.size + 1, 0, none⟩) (ts ++ [0]) := by
            have h := o8.lies.take (ts ++ [0]).length
            rw [List.take_left'] at h
            · exact h
            · rfl
          have TO := hid (RR.out w8 (w7.heap.size + 1) c8 (ts.length + 1) (ts ++ [0]) d8 hl8 (by simp; omega) (TT7.out.lim.append (limb_one (by omega))) (by rw [Nm.val_append, TT7.out.val]; simp [Nm.val]) (by have := TR7.out.own.lt; omega) hEq.symm)
          have HEQ := hid hEq
          clear hEq ap o8 d8 hl8 hc8
          go_wp2_with fail
          refine wp_loop_rounds 2 ?_
          rw [rounds_succ]
          go_wp2_with (at_builtin; refine wpList_append_r rfl _ _ rfl AP.out (by rfl) (by rfl) ?_; clear AP)
          rw [rounds_succ]
          go_wp2_with fail
          refine TO.out.mono ?_
          rintro e9 w9 ⟨os9, rfl, P⟩
          clear TO
          go_wp2_with fail
          refine (short_tri (some ⟨g3, 0, none⟩) vs.length vs.length os9 _ P.out.2.1 (by omega) P.out.1.lies P.out.2.2.1 (4 * S + pr - (4 * R + 1)) P.out.2.2.2.1).mono ?_
          rintro e10 w10 ⟨g10, xs, rfl, K10⟩
          have D10 := hid (chain P.out.2.2.2.2.1 K10.out.2.2 (Nat.le_refl _))
          have HO10 := hid (P.out.2.2.2.2.2.below K10.out.2.2 (Nat.le_refl _))
          have TX := hid K10.out.1
          have hg10 : Hid (w'.heap.size ≤ g10) := Nat.le_trans P.out.2.2.2.2.1.size K10.out.2.1
          clear P K10
          go_wp2_with fail
          refine (doubled_some r _ _ os 1 _ rfl (by omega) HO10.out.1 HO10.out.2.1 (by omega) (by omega) (2 * R + 1) (by rw [HO10.out.2.2.2.1])).mono ?_
          rintro e11 w11 ⟨g11, l11, rfl, K11⟩
          have D11 := hid (chain D10.out K11.out.2.2.2.2 (Nat.le_refl _))
          have TX11 := hid (TX.out.below K11.out.2.2.2.2)
          clear HO10 TX D10
          go_wp2_with fail
          refine (short_tri (some ⟨g11, 0, none⟩) _ _ l11 _ K11.out.2.1 (by omega) K11.out.1 K11.out.2.2.1 (2 * R + 1) K11.out.2.2.2.1).mono ?_
          rintro e12 w12 ⟨g12, rs, rfl, K12⟩
          have D12 := hid (chain D11.out K12.out.2.2 (Nat.le_refl _))
          have TX12 := hid ((TX11.out.below K12.out.2.2).ans (B := w'.heap.size) hg10.out)
          have TS12 := hid (K12.out.1.ans (B := w'.heap.size) (Nat.le_trans D11.out.size K12.out.2.1))
          clear K11 K12 D11 TX11 RR
          go_wp2_with fail
          go_roundg t
          case measure => omega
          case rel => exact ⟨_, rs, _, xs, 2 * R + 1, 4 * S + pr - (4 * R + 1), rfl, rfl, by go_num, by omega, TS12.out, TX12.out, RI2.out, D12.out⟩
      · have hc0 : c < 0 := by
          rw [← HCC.out, cmpI_lt (by omega)]
          omega
        have RI2 := hid (Rn.step_zero RI.out pr0 (by omega))
        rw [← PR.out] at RI2
        clear hge
        go_wp2_with fail
        refine (doubled_some r _ _ os 0 _ rfl (by omega) HO7.out.1 HO7.out.2.1 (by omega) (by omega) (2 * R) (by rw [HO7.out.2.2.2.1]; omega)).mono ?_
        rintro e8 w8 ⟨g8, l8, rfl, K8⟩
        have D8 := hid (chain D7.out K8.out.2.2.2.2 (Nat.le_refl _))
        have TR8 := hid (TR7.out.below K8.out.2.2.2.2)
        go_wp2_with fail
        refine (short_tri (some ⟨g8, 0, none⟩) _ _ l8 _ K8.out.2.1 (by omega) K8.out.1 K8.out.2.2.1 (2 * R) K8.out.2.2.2.1).mono ?_
        rintro e9 w9 ⟨g9, rs, rfl, K9⟩
        have D9 := hid (chain D8.out K9.out.2.2 (Nat.le_refl _))
        have TR9 := hid ((TR8.out.below K9.out.2.2).ans (B := w'.heap.size) hg3.out)
        have TS9 := hid (K9.out.1.ans (B := w'.heap.size) (Nat.le_trans D8.out.size K9.out.2.1))
        clear K8 K9 D8 TR8 D7 HO7 TR7 TT7
        go_wp2_with fail
        go_roundg t
        case measure => omega
        case rel => exact ⟨_, rs, _, vs, 2 * R, 4 * S + pr, rfl, rfl, by go_num, by omega, TS9.out, TR9.out, RI2.out, D9.out⟩
end Go.Proofs.YthfechigdiefpaaDoor
