/-
  Texts put together: QRootRef, QRef6, QRef7, QDividesA.
-/
import Derived.Test.YtmihjiiagpkciaaDoorRC
import Derived.Test.YtmihjiiagpkciaaDoorRE
import Derived.Test.YtmihjiiagpkciaaDoorFromW
import Derived.OwnWalk
import Derived.Deep.LoopGhost
import Derived.Test.YtmihjiiagpkciaaDoorRD
import Derived.Test.YtmihjiiagpkciaaDoorQNearD
import Derived.Test.YtmihjiiagpkciaaDoorQLaw
import Derived.Test.YtmihjiiagpkciaaDoorQSame
namespace Go.Proofs.YtmihjiiagpkciaaDoor
open Go.RowKit Go.Deep

/-- An append whose run is known. -/
theorem wpList_append_r {ty : TypeId} {ops : Array Oper} {rest : List Oper} {o : Oper} {a : Act} {Q : Exit → Act → World → Prop} (hgd : o.guard = none) (s x : Operand)
    (ho : o.op = .call { callee := .builtin .append, args := #[s, x], argTypes := #[ty, ty] }) {v y v' : Value} {w w' : World} (hr : (Builtin.append_ #[ty, ty] o.type #[v, y]).run Tryd.prog w = .ok v' w') (hs : a.eval s = v) (hx : a.eval x = y)
    (h : wpList Tryd.prog ops Q rest (a.put o.dst v') w') : wpList Tryd.prog ops Q (o :: rest) a w := by
  refine wpList_plain hgd fun K hK => ?_
  unfold Oper.wp execOp
  simp only [ho, resolve, invoke, builtin, Sem.run_bind, Sem.run_pure, Result.andThen_ok, List.map_toArray, List.map_cons, List.map_nil, hs, hx, hr]
  exact hK _ _ h

/-- A trimmed list that fills a block of its own. -/
structure Tri (w : World) (g : Nat) (us : List Int) (v : Int) : Prop where
  own : Own w g us
  lim : Nm.Limbs us
  ts : Nm.tsize us = us.length
  val : Nm.val us = v

theorem Tri.below {w w' : World} {g : Nat} {us : List Int} {v : Int} (h : Tri w g us v) (hb : Below w.heap.size w w') : Tri w' g us v := ⟨h.own.below hb h.own.lt, h.lim, h.ts, h.val⟩

theorem Tri.ans {w : World} {g B : Nat} {us : List Int} {v : Int} (h : Tri w g us v) (hB : B ≤ g) : Ans B w (some ⟨g, 0, none⟩) us v := ⟨h.own.lies, h.lim, h.ts, h.val, fun a ha => by cases ha; exact ⟨hB, fun _ o => h.own.free o⟩⟩

theorem Tri.arg {w : World} {g : Nat} {us : List Int} {v : Int} (h : Tri w g us v) (hs : us.length ≤ 17592186044000) : Arg w (some ⟨g, 0, none⟩) us.length us.length us := ⟨rfl, Nat.le_refl _, hs, h.own.lies, h.lim⟩

theorem short_tri (p : Option Addr) (n cap : Nat) (zs : List Int) (w : World) (hn : zs.length = n) (hm : n ≤ 17592186044000) (h : Lies w p zs) (hz : Nm.Limbs zs) (v : Int) (hv : Nm.val zs = v) :
    Calls Tryd.prog 7 #[.slice p n cap] w fun e w' => ∃ g us, e = .returned (.slice (some ⟨g, 0, none⟩) (List.length us) (List.length us)) ∧ Hid (Tri w' g us v ∧ w.heap.size ≤ g ∧ Below w.heap.size w w') := by
  refine (short_any p n cap zs _ w hn hm h rfl).mono ?_
  rintro e w' ⟨rfl, o, d⟩
  exact ⟨w.heap.size, Nm.trim zs, by rw [Nm.trim_length], ⟨o, hz.trim, by rw [Nm.trim_trim, Nm.trim_length], by rw [Nm.val_trim, hv]⟩, Nat.le_refl _, d⟩

/-- doubled, its block under a name. -/
theorem doubled_some (p : Option Addr) (n cap : Nat) (zs : List Int) (bit : Int) (w : World) (hn : zs.length = n) (hm : n ≤ 17592186044000) (h : Lies w p zs) (hz : Nm.Limbs zs) (b0 : 0 ≤ bit) (b1 : bit ≤ 1) (v : Int) (hv : 2 * Nm.val zs + bit = v) :
    Calls Tryd.prog 46 #[.slice p n cap, .int .u64 bit] w fun e w' => ∃ g os, e = .returned (.slice (some ⟨g, 0, none⟩) (n + 1) (n + 1)) ∧ Hid (Lies w' (some ⟨g, 0, none⟩) os ∧ os.length = n + 1 ∧ Nm.Limbs os ∧ Nm.val os = v ∧ Below w.heap.size w w') := by
  refine (doubled_any p n cap zs bit w hn hm h hz b0 b1).mono ?_
  rintro e w' ⟨os, rfl, K⟩
  obtain ⟨k1, k2, k3, k4, k5⟩ := K.out
  exact ⟨_, os, rfl, k1.lies, k2, k3, by rw [k4, hv], k5⟩

theorem len_of {B : Nat} {w : World} {p : Option Addr} {ys : List Int} {n : Int} (h : Ans B w p ys n) {k : Nat} (hn : n < Nm.pw k) : ys.length ≤ k := by
  rw [← h.2.2.1]
  exact (Nm.tsize_le_iff h.2.1 k).2 (by rw [h.2.2.2.1]; exact hn)

theorem Tri.len {w : World} {g : Nat} {us : List Int} {v : Int} (h : Tri w g us v) {k : Nat} (hn : v < Nm.pw k) : us.length ≤ k := by
  rw [← h.ts]
  exact (Nm.tsize_le_iff h.lim k).2 (by rw [h.val]; exact hn)

theorem Tri.long {w : World} {g g' : Nat} {us ts : List Int} {v v' : Int} (h : Tri w g us v) (k : Tri w g' ts v') (hle : v' ≤ v) : ts.length ≤ us.length := by
  rw [← h.ts, ← k.ts]
  refine (Nm.tsize_le_iff k.lim _).2 ?_
  have := Nm.val_lt_tsize h.lim
  rw [h.val] at this
  rw [k.val]
  omega

theorem Tri.near {w : World} {g g' : Nat} {us ts : List Int} {v v' : Int} (h : Tri w g us v) (k : Tri w g' ts v') (hlt : v < 18446744073709551616 * v') : us.length ≤ ts.length + 1 := by
  rw [← h.ts, ← k.ts]
  refine (Nm.tsize_le_iff h.lim _).2 ?_
  have := Nm.val_lt_tsize k.lim
  rw [k.val] at this
  rw [h.val, Nm.pw_succ]
  omega

theorem rroot_big (p : Option Addr) (n cap : Nat) (za : List Int) (w : World) (ha : Arg w p n cap za) (tz : 256 < Nm.tsize za) :
    Calls Tryd.prog 27 #[.slice p n cap] w fun e w' => e = .returned (.tuple #[.slice none 0 0, .bool false, .int .i64 2]) ∧ w' = w := by
  have hn := ha.2.1
  have hn' := ha.2.2.1
  have h1' : (256 : Int) < (Nm.tsize za : Int) := by omega
  have HL := hid (top_any p n cap za w ha.1 (by omega) ha.2.2.2.1)
  clear ha tz
  go_enter Tryd.func27, Tryd.ntmps27
  go_wp2_with fail
  refine HL.out.mono ?_
  rintro e w' ⟨rfl, rfl⟩
  go_wp2_with fail
  go_ret3
  exact ⟨rfl, rfl⟩

theorem and3 (x : Int) (h0 : 0 ≤ x) (h1 : x < 18446744073709551616) : bits .and .u64 x 3 = x % 4 := by
  obtain ⟨n, rfl⟩ := Int.eq_ofNat_of_zero_le h0
  have h := bits_and_u64_nat n 3 (by omega) (by omega)
  have e : n &&& 3 = n % 4 := Nat.and_two_pow_sub_one_eq_mod n 2
  rw [e] at h
  rw [show (3 : Int) = ((3 : Nat) : Int) from rfl, h]
  omega

theorem and1 (x : Int) (h0 : 0 ≤ x) (h1 : x < 18446744073709551616) : bits .and .u64 x 1 = x % 2 := by
  obtain ⟨n, rfl⟩ := Int.eq_ofNat_of_zero_le h0
  have h := bits_and_u64_nat n 1 (by omega) (by omega)
  have e : n &&& 1 = n % 2 := Nat.and_two_pow_sub_one_eq_mod n 1
  rw [e] at h
  rw [show (1 : Int) = ((1 : Nat) : Int) from rfl, h]
  omega

/-- How long the lists may be. -/
theorem rn_room {A R S : Int} {j : Nat} (h : Rn.Inv (A / 4 ^ j) R S) (hA0 : 0 ≤ A) (hA : A < Nm.pw 256) : R < Nm.pw 256 ∧ S < Nm.pw 257 ∧ 4 * S + 3 < Nm.pw 258 ∧ 4 * R + 1 < Nm.pw 257 := by
  obtain ⟨h1, h2, h3, h4⟩ := h
  have h5 : A / 4 ^ j ≤ A := Int.ediv_le_self _ hA0
  have h6 : R ≤ R * R := by
    rcases (show R = 0 ∨ 1 ≤ R by omega) with h | h
    · subst h; omega
    · have : R * 1 ≤ R * R := Int.mul_le_mul_of_nonneg_left h h1
      omega
  have e1 := Nm.pw_succ 256
  have e2 := Nm.pw_succ 257
  have e3 := Nm.pw_pos 256
  rw [show (256 + 1 : Nat) = 257 from rfl] at e1
  rw [show (257 + 1 : Nat) = 258 from rfl] at e2
  generalize Nm.pw 258 = x at *
  generalize Nm.pw 257 = y at *
  generalize Nm.pw 256 = z at *
  omega

theorem ret_root2 {t : Option Addr} {k : Nat} {b c : Bool} {e : Int} (h : b = c) : Ending.returned (.tuple #[.slice t k k, .bool b, .int .i64 e]) = .returned (.tuple #[.slice t k k, .bool c, .int .i64 e]) := by rw [h]

set_option maxRecDepth 100000 in
set_option maxHeartbeats 8000000 in
theorem rroot_ok (p : Option Addr) (n cap : Nat) (za : List Int) (A : Int) (w : World) (ha : Arg w p n cap za) (tz : Nm.tsize za ≤ 256) (hA : Nm.val za = A) :
    Calls Tryd.prog 27 #[.slice p n cap] w fun e w' => ∃ t os R, e = .returned (.tuple #[.slice t (List.length os) (List.length os), .bool (decide (R * R = A)), .int .i64 0]) ∧ Ans w.heap.size w' t os R ∧ Hid (0 ≤ R ∧ R * R ≤ A ∧ A < (R + 1) * (R + 1)) ∧ Below w.heap.size w w' := by
  have hn := ha.2.1
  have hn' := ha.2.2.1
  have htl := ha.tl
  obtain ⟨N, HN⟩ : ∃ N, Hid (Nm.tsize za = N) := ⟨_, rfl⟩
  have T := top_any p n cap za w ha.1 (by omega) ha.2.2.2.1
  rw [HN.out] at T htl
  have HT := hid T
  have hN : (N : Int) ≤ 256 := by have := HN.out; omega
  have A0 := (Nm.val_bd za ha.2.2.2.2).1
  have A1 := Nm.val_lt_tsize ha.2.2.2.2
  have A2 : A < Nm.pw 256 := by rw [← hA]; exact (Nm.tsize_le_iff ha.2.2.2.2 256).1 tz
  rw [hA] at A0
  rw [hA, HN.out] at A1
  have ST := hid (Rn.start A N A0 A1)
  have HA := hid ha
  have HV := hid hA
  have HA0 := hid A0
  have HA2 := hid A2
  clear ha hA tz T A1 A2 A0
  go_enter Tryd.func27, Tryd.ntmps27
  go_wp2_with fail
  refine HT.out.mono ?_
  rintro e w' ⟨rfl, rfl⟩
  go_wp2_with fail
  go_loopg [6, 7, 8] (32 * N) (fun j a c i wr => ∃ (r : Option Addr) (os : List Int) (s : Option Addr) (us : List Int) (R S : Int), a = .slice r (List.length os) (List.length os) ∧ c = .slice s (List.length us) (List.length us) ∧ i = .int .i64 ((j : Int) - 1) ∧ j ≤ 32 * N ∧ Hid (Ans w'.heap.size wr r os R) ∧ Hid (Ans w'.heap.size wr s us S) ∧ Hid (Rn.Inv (A / 4 ^ j) R S) ∧ Hid (Below w'.heap.size w' wr))
  case atStart => exact ⟨none, [], none, [], 0, 0, rfl, rfl, by go_num, Nat.le_refl _, ans_none _ _ _ (fun a h => by cases h), ans_none _ _ _ (fun a h => by cases h), by show Rn.Inv _ _ _; rw [ST.out]; exact ⟨by omega, by omega, by omega, by omega⟩, Below.refl _ _⟩
  case round =>
    obtain ⟨r, os, s, us, R, S, rfl, rfl, rfl, hj, HO, HU, RI, D⟩ := hrel
    cases gk with
    | zero =>
      have F : Hid ((decide (S = 0) = decide (R * R = A)) ∧ (0 ≤ R ∧ R * R ≤ A ∧ A < (R + 1) * (R + 1))) := by
        have h := RI.out
        rw [Int.pow_zero, Int.ediv_one] at h
        refine ⟨?_, h.root⟩
        have h3 := h.2.2.1
        by_cases hs : S = 0
        · simp [hs]; omega
        · simp [hs]; omega
      have hus : Hid (us.length ≤ 257) := len_of HU.out (rn_room RI.out HA0.out HA2.out).2.1
      have hSZ : Hid (decide (((Nm.tsize us : Int)) = 0) = decide (S = 0)) := by
        have h1 := Nm.tsize_zero_iff HU.out.2.1
        rw [HU.out.2.2.2.1] at h1
        by_cases hs : S = 0
        · simp [Hid, hs, h1.2 hs]
        · have : Nm.tsize us ≠ 0 := fun h => hs (h1.1 h)
          simp [Hid, hs]; omega
      go_wp2_with fail
      refine (top_any s _ _ us _ rfl (by have := hus.out; omega) HU.out.1).mono ?_
      rintro e w2 ⟨rfl, rfl⟩
      go_wp2_with fail
      go_ret3
      exact ⟨r, os, R, ret_root2 (by rw [← F.out.1, ← hSZ.out, Bool.eq_iff_iff]; simp), HO.out, F.out.2, D.out⟩
    | succ t =>
      rw [show ((t + 1 : Nat) : Int) - 1 = (t : Int) by omega]
      have HAr := hid (HA.out.below D.out (Nat.le_refl _))
      obtain ⟨b, off, hp, hbw, HC⟩ := HAr.out.2.2.2.1.at (by have := HAr.out.1; omega)
      subst hp
      obtain ⟨k, hk⟩ : ∃ k, t / 32 = k := ⟨_, rfl⟩
      obtain ⟨e, he⟩ : ∃ e, t % 32 = e := ⟨_, rfl⟩
      obtain ⟨sh, hsh⟩ : ∃ sh, 2 * e = sh := ⟨_, rfl⟩
      have hkn : k < n := by omega
      obtain ⟨x, hx, X⟩ : ∃ x, wr.cell? ⟨b, off + k, none⟩ = some (.int .u64 x) ∧ Hid (x = za.getD k 0) := ⟨_, HC.out k (by have := HAr.out.1; omega), rfl⟩
      have hx0 := HA.out.2.2.2.2.at k
      rw [← X.out] at hx0
      have hy0 : 0 ≤ x / 2 ^ sh := Int.ediv_nonneg hx0.1 (Int.le_of_lt (Nm.two_pos sh))
      have hy1 : x / 2 ^ sh ≤ x := Int.ediv_le_self _ hx0.1
      obtain ⟨y, q4⟩ : ∃ y, x / 2 ^ sh = y := ⟨_, rfl⟩
      rw [q4] at hy0 hy1
      have q5 := and3 y hy0 (by omega)
      obtain ⟨pr, hpr⟩ : ∃ pr, y % 4 = pr := ⟨_, rfl⟩
      rw [hpr] at q5
      have pr0 : 0 ≤ pr := by omega
      have pr1 : pr ≤ 3 := by omega
      have q6 := and1 pr pr0 (by omega)
      obtain ⟨pb, hpb⟩ : ∃ pb, pr % 2 = pb := ⟨_, rfl⟩
      rw [hpb] at q6
      have pb0 : 0 ≤ pb := by omega
      have pb1 : pb ≤ 1 := by omega
      have q1 : (t : Int) / 32 = (k : Int) := by omega
      have q1t : (t : Int).tdiv 32 = (k : Int) := by rw [Int.tdiv_eq_ediv_of_nonneg (by omega)]; exact q1
      have q2 : (t : Int) % 32 = (e : Int) := by omega
      have q2t : (t : Int).tmod 32 = (e : Int) := by rw [Int.tmod_eq_emod_of_nonneg (by omega)]; exact q2
      have q3 : 2 * (e : Int) = (sh : Int) := by omega
      have PR : Hid (A / 4 ^ t = 4 * (A / 4 ^ (t + 1)) + pr) := by
        show _ = _
        have h1 := Rn.pair_at za t k e sh (by omega) (by omega) hsh.symm HA.out.2.2.2.2 (by have := HA.out.1; omega)
        rw [HV.out, ← X.out, q4, hpr] at h1
        have h2 := Rn.down A t
        omega
      have PB : Hid (2 * (pr / 2) + pb = pr) := by show _ = _; omega
      have hsh62 : (sh : Int) ≤ 62 := by omega
      have hkn' : (k : Int) < (n : Int) := by omega
      have RO := hid (rn_room RI.out HA0.out HA2.out)
      have lus : us.length ≤ 257 := len_of HU.out RO.out.2.1
      have los : os.length ≤ 256 := len_of HO.out RO.out.1
      obtain ⟨hx0, hx1⟩ := hx0
      clear hk he hsh hpr hpb HC HAr
      go_wp2_with fail
      refine (doubled_some s _ _ us (pr / 2) _ rfl (by omega) HU.out.1 HU.out.2.1 (by omega) (by omega) (2 * S + pr / 2) (by rw [HU.out.2.2.2.1])).mono ?_
      rintro e1 w1 ⟨g1, l1, rfl, K1⟩
      have D1 := hid (chain D.out K1.out.2.2.2.2 (Nat.le_refl _))
      have HO1 := hid (HO.out.below K1.out.2.2.2.2 (Nat.le_refl _))
      clear q1 q1t q2 q2t q3 q4 q5 hx HO HU D
      go_wp2_with fail
      refine (doubled_some (some ⟨g1, 0, none⟩) _ _ l1 pb _ K1.out.2.1 (by omega) K1.out.1 K1.out.2.2.1 pb0 pb1 (4 * S + pr) (by rw [K1.out.2.2.2.1]; have := PB.out; omega)).mono ?_
      rintro e2 w2 ⟨g2, l2, rfl, K2⟩
      have D2 := hid (chain D1.out K2.out.2.2.2.2 (Nat.le_refl _))
      have HO2 := hid (HO1.out.below K2.out.2.2.2.2 (Nat.le_refl _))
      clear q6 K1 HO1 D1
      go_wp2_with fail
      refine (short_tri (some ⟨g2, 0, none⟩) _ _ l2 _ K2.out.2.1 (by omega) K2.out.1 K2.out.2.2.1 (4 * S + pr) K2.out.2.2.2.1).mono ?_
      rintro e3 w3 ⟨g3, vs, rfl, K3⟩
      have D3 := hid (chain D2.out K3.out.2.2 (Nat.le_refl _))
      have HO3 := hid (HO2.out.below K3.out.2.2 (Nat.le_refl _))
      have TR := hid K3.out.1
      have hg3 : Hid (w'.heap.size ≤ g3) := Nat.le_trans D2.out.size K3.out.2.1
      have hw23 : Hid (w2.heap.size ≤ g3) := K3.out.2.1
      have hrs : Hid (∀ a, r = some a → 0 < os.length → a.block < g3) := fun a h h0 => Nat.lt_of_lt_of_le (HO2.out.1.lt h0 a h) hw23.out
      clear K2 K3 HO2 D2
      go_wp2_with fail
      refine (doubled_some r _ _ os 0 _ rfl (by omega) HO3.out.1 HO3.out.2.1 (by omega) (by omega) (2 * R) (by rw [HO3.out.2.2.2.1]; omega)).mono ?_
      rintro e4 w4 ⟨g4, l4, rfl, K4⟩
      have D4 := hid (chain D3.out K4.out.2.2.2.2 (Nat.le_refl _))
      have HO4 := hid (HO3.out.below K4.out.2.2.2.2 (Nat.le_refl _))
      have TR4 := hid (TR.out.below K4.out.2.2.2.2)
      clear HO3 D3 TR
      go_wp2_with fail
      refine (doubled_some (some ⟨g4, 0, none⟩) _ _ l4 1 _ K4.out.2.1 (by omega) K4.out.1 K4.out.2.2.1 (by omega) (by omega) (4 * R + 1) (by rw [K4.out.2.2.2.1]; omega)).mono ?_
      rintro e5 w5 ⟨g5, l5, rfl, K5⟩
      have D5 := hid (chain D4.out K5.out.2.2.2.2 (Nat.le_refl _))
      have HO5 := hid (HO4.out.below K5.out.2.2.2.2 (Nat.le_refl _))
      have TR5 := hid (TR4.out.below K5.out.2.2.2.2)
      clear K4 HO4 D4 TR4
      go_wp2_with fail
      refine (short_tri (some ⟨g5, 0, none⟩) _ _ l5 _ K5.out.2.1 (by omega) K5.out.1 K5.out.2.2.1 (4 * R + 1) K5.out.2.2.2.1).mono ?_
      rintro e6 w6 ⟨g6, ts, rfl, K6⟩
      have D6 := hid (chain D5.out K6.out.2.2 (Nat.le_refl _))
      have HO6 := hid (HO5.out.below K6.out.2.2 (Nat.le_refl _))
      have TR6 := hid (TR5.out.below K6.out.2.2)
      have TT6 := hid K6.out.1
      have hg36 : g3 ≠ g6 := by have := TR5.out.own.lt; have := K6.out.2.1; omega
      clear K5 K6 HO5 D5 TR5
      have lvs : vs.length ≤ 258 := TR6.out.len (by have := RO.out.2.2.1; omega)
      have lts : ts.length ≤ 257 := TT6.out.len RO.out.2.2.2
      obtain ⟨c, HCC⟩ : ∃ c, Hid (cmpI (4 * S + pr) (4 * R + 1) = c) := ⟨_, rfl⟩
      go_wp2_with fail
      refine (order_is c _ _ _ _ _ _ vs ts _ (TR6.out.arg (by omega)) (TT6.out.arg (by omega)) (by rw [TR6.out.val, TT6.out.val]; exact HCC.out)).mono ?_
      rintro e7 w7 ⟨rfl, d7⟩
      have D7 := hid (chain D6.out d7 (Nat.le_refl _))
      have HO7 := hid (HO6.out.below d7 (Nat.le_refl _))
      have TR7 := hid (TR6.out.below d7)
      have TT7 := hid (TT6.out.below d7)
      clear d7 HO6 D6 TR6 TT6
      by_cases hge : 4 * R + 1 ≤ 4 * S + pr
      · have hc0 : 0 ≤ c := by
          rw [← HCC.out]
          rcases (show 4 * S + pr = 4 * R + 1 ∨ 4 * R + 1 < 4 * S + pr by omega) with h | h
          · rw [cmpI_eq h]; omega
          · rw [cmpI_gt h]; omega
        have RI2 := hid (Rn.step_one RI.out pr1 hge)
        rw [← PR.out] at RI2
        have hlong := TR7.out.long TT7.out hge
        have hnear := TR7.out.near TT7.out (by have := RI.out; obtain ⟨i1, i2, i3, i4⟩ := this; omega)
        have hvs0 : 0 < vs.length := by
          have h1 := TR7.out.ts
          have h2 := Nm.tsize_zero_iff TR7.out.lim
          rw [TR7.out.val] at h2
          have := RI.out.1
          omega
        have HGE := hid hge
        clear hge
        have rest_of_round : ∀ (w8 : World) (g8 cap8 M : Nat) (ms : List Int), Below w7.heap.size w7 w8 → Lies w8 (some ⟨g8, 0, none⟩) ms → ms.length = vs.length → Nm.Limbs ms → Nm.val ms = 4 * R + 1 → g8 ≠ g3 → M = vs.length →
            Calls Tryd.prog 50 #[.slice (some ⟨g3, 0, none⟩) vs.length vs.length, .int .i64 0, .slice (some ⟨g8, 0, none⟩) M cap8] w8 fun e w9 => ∃ os9, e = .returned (.tuple #[]) ∧ Hid (Own w9 g3 os9 ∧ os9.length = vs.length ∧ Nm.Limbs os9 ∧ Nm.val os9 = 4 * S + pr - (4 * R + 1) ∧ Below w'.heap.size w' w9 ∧ Ans w'.heap.size w9 r os R) := by
          intro w8 g8 cap8 M ms d8 m1 m2 m3 m4 hg8 hM
          subst hM
          have o8 := TR7.out.below d8
          refine (takeOff_any g3 vs.length vs.length vs.length vs.length cap8 0 vs (some ⟨g8, 0, none⟩) ms 0 w8 o8.own rfl (Nat.le_refl _) (by omega) m2 hvs0 (by omega) o8.lim m1 m3 (fun a h => by cases h; exact hg8) rfl (by rw [m4, o8.val]; simp only [Nm.pw, Int.one_mul]; exact HGE.out) (by rw [Nat.zero_add]; exact (Nm.val_bd vs o8.lim).2)).mono ?_
          rintro e w9 ⟨os9, rfl, P⟩
          obtain ⟨p1, p2, p3, p4, p5, p6, p7⟩ := P.out
          rw [o8.val, m4] at p4
          simp only [Nm.pw, Int.one_mul] at p4
          have c8 := chain D7.out d8 (Nat.le_refl _)
          refine ⟨os9, rfl, p1, p2, p3, p4, c8.trans (p5.mono hg3.out), ?_⟩
          have a8 := HO7.out.below d8 (Nat.le_refl _)
          rcases Nat.eq_zero_or_pos os.length with h0 | h0
          · have : os = [] := List.eq_nil_of_length_eq_zero h0
            exact ⟨by rw [this]; exact Lies.nil _ _, a8.2.1, a8.2.2.1, a8.2.2.2.1, fun a ha => ⟨(a8.2.2.2.2 a ha).1, fun q => absurd q (by omega)⟩⟩
          · exact ⟨a8.1.low p5 (fun a h => hrs.out a h h0), a8.2.1, a8.2.2.1, a8.2.2.2.1, fun a ha => ⟨(a8.2.2.2.2 a ha).1, fun q o => by rw [p5.frozen (p := ⟨a.block, o, none⟩) (hrs.out a ha h0)]; exact (a8.2.2.2.2 a ha).2 q o⟩⟩
        have RR := hid rest_of_round
        clear rest_of_round
        rcases (show ts.length = vs.length ∨ vs.length = ts.length + 1 by omega) with hEq | hEq
        · have hnl : ¬ (ts.length : Int) < (vs.length : Int) := by omega
          have TO := hid (RR.out w7 g6 ts.length ts.length ts (Below.refl _ _) TT7.out.own.lies hEq TT7.out.lim TT7.out.val (fun h => hg36 h.symm) hEq)
          have HEQ := hid hEq
          clear hEq
          go_wp2_with fail
          refine wp_loop_rounds 1 ?_
          rw [rounds_succ]
          go_wp2_with fail
          refine TO.out.mono ?_
          rintro e9 w9 ⟨os9, rfl, P⟩
          clear TO
          go_wp2_with fail
          refine (short_tri (some ⟨g3, 0, none⟩) vs.length vs.length os9 _ P.out.2.1 (by omega) P.out.1.lies P.out.2.2.1 (4 * S + pr - (4 * R + 1)) P.out.2.2.2.1).mono ?_
          rintro e10 w10 ⟨g10, xs, rfl, K10⟩
          have D10 := hid (chain P.out.2.2.2.2.1 K10.out.2.2 (Nat.le_refl _))
          have HO10 := hid (P.out.2.2.2.2.2.below K10.out.2.2 (Nat.le_refl _))
          have TX := hid K10.out.1
          have hg10 : Hid (w'.heap.size ≤ g10) := Nat.le_trans P.out.2.2.2.2.1.size K10.out.2.1
          clear P K10
          go_wp2_with fail
          refine (doubled_some r _ _ os 1 _ rfl (by omega) HO10.out.1 HO10.out.2.1 (by omega) (by omega) (2 * R + 1) (by rw [HO10.out.2.2.2.1])).mono ?_
          rintro e11 w11 ⟨g11, l11, rfl, K11⟩
          have D11 := hid (chain D10.out K11.out.2.2.2.2 (Nat.le_refl _))
          have TX11 := hid (TX.out.below K11.out.2.2.2.2)
          clear HO10 TX D10
          go_wp2_with fail
          refine (short_tri (some ⟨g11, 0, none⟩) _ _ l11 _ K11.out.2.1 (by omega) K11.out.1 K11.out.2.2.1 (2 * R + 1) K11.out.2.2.2.1).mono ?_
          rintro e12 w12 ⟨g12, rs, rfl, K12⟩
          have D12 := hid (chain D11.out K12.out.2.2 (Nat.le_refl _))
          have TX12 := hid ((TX11.out.below K12.out.2.2).ans (B := w'.heap.size) hg10.out)
          have TS12 := hid (K12.out.1.ans (B := w'.heap.size) (Nat.le_trans D11.out.size K12.out.2.1))
          clear K11 K12 D11 TX11 RR
          go_wp2_with fail
          go_roundg t
          case measure => omega
          case rel => exact ⟨_, rs, _, xs, 2 * R + 1, 4 * S + pr - (4 * R + 1), rfl, rfl, by go_num, by omega, TS12.out, TX12.out, RI2.out, D12.out⟩
        · have hnl : (ts.length : Int) < (vs.length : Int) := by omega
          have hnl2 : ¬ ((ts.length : Int) + 1) < (vs.length : Int) := by omega
          obtain ⟨c8, w8, ap, hc8, o8, d8⟩ := grow64 g6 ts.length ts 0 w7 rfl (by omega) TT7.out.own
          have AP := hid ap
          have hl8 : Lies w8 (some ⟨w7.heap.size + 1, 0, none⟩) (ts ++ [0]) := by
            have h := o8.lies.take (ts ++ [0]).length
            rw [List.take_left'] at h
            · exact h
            · rfl
          have TO := hid (RR.out w8 (w7.heap.size + 1) c8 (ts.length + 1) (ts ++ [0]) d8 hl8 (by simp; omega) (TT7.out.lim.append (limb_one (by omega))) (by rw [Nm.val_append, TT7.out.val]; simp [Nm.val]) (by have := TR7.out.own.lt; omega) hEq.symm)
          have HEQ := hid hEq
          clear hEq ap o8 d8 hl8 hc8
          go_wp2_with fail
          refine wp_loop_rounds 2 ?_
          rw [rounds_succ]
          go_wp2_with (at_builtin; refine wpList_append_r rfl _ _ rfl AP.out (by rfl) (by rfl) ?_; clear AP)
          rw [rounds_succ]
          go_wp2_with fail
          refine TO.out.mono ?_
          rintro e9 w9 ⟨os9, rfl, P⟩
          clear TO
          go_wp2_with fail
          refine (short_tri (some ⟨g3, 0, none⟩) vs.length vs.length os9 _ P.out.2.1 (by omega) P.out.1.lies P.out.2.2.1 (4 * S + pr - (4 * R + 1)) P.out.2.2.2.1).mono ?_
          rintro e10 w10 ⟨g10, xs, rfl, K10⟩
          have D10 := hid (chain P.out.2.2.2.2.1 K10.out.2.2 (Nat.le_refl _))
          have HO10 := hid (P.out.2.2.2.2.2.below K10.out.2.2 (Nat.le_refl _))
          have TX := hid K10.out.1
          have hg10 : Hid (w'.heap.size ≤ g10) := Nat.le_trans P.out.2.2.2.2.1.size K10.out.2.1
          clear P K10
          go_wp2_with fail
          refine (doubled_some r _ _ os 1 _ rfl (by omega) HO10.out.1 HO10.out.2.1 (by omega) (by omega) (2 * R + 1) (by rw [HO10.out.2.2.2.1])).mono ?_
          rintro e11 w11 ⟨g11, l11, rfl, K11⟩
          have D11 := hid (chain D10.out K11.out.2.2.2.2 (Nat.le_refl _))
          have TX11 := hid (TX.out.below K11.out.2.2.2.2)
          clear HO10 TX D10
          go_wp2_with fail
          refine (short_tri (some ⟨g11, 0, none⟩) _ _ l11 _ K11.out.2.1 (by omega) K11.out.1 K11.out.2.2.1 (2 * R + 1) K11.out.2.2.2.1).mono ?_
          rintro e12 w12 ⟨g12, rs, rfl, K12⟩
          have D12 := hid (chain D11.out K12.out.2.2 (Nat.le_refl _))
          have TX12 := hid ((TX11.out.below K12.out.2.2).ans (B := w'.heap.size) hg10.out)
          have TS12 := hid (K12.out.1.ans (B := w'.heap.size) (Nat.le_trans D11.out.size K12.out.2.1))
          clear K11 K12 D11 TX11 RR
          go_wp2_with fail
          go_roundg t
          case measure => omega
          case rel => exact ⟨_, rs, _, xs, 2 * R + 1, 4 * S + pr - (4 * R + 1), rfl, rfl, by go_num, by omega, TS12.out, TX12.out, RI2.out, D12.out⟩
      · have hc0 : c < 0 := by
          rw [← HCC.out, cmpI_lt (by omega)]
          omega
        have RI2 := hid (Rn.step_zero RI.out pr0 (by omega))
        rw [← PR.out] at RI2
        clear hge
        go_wp2_with fail
        refine (doubled_some r _ _ os 0 _ rfl (by omega) HO7.out.1 HO7.out.2.1 (by omega) (by omega) (2 * R) (by rw [HO7.out.2.2.2.1]; omega)).mono ?_
        rintro e8 w8 ⟨g8, l8, rfl, K8⟩
        have D8 := hid (chain D7.out K8.out.2.2.2.2 (Nat.le_refl _))
        have TR8 := hid (TR7.out.below K8.out.2.2.2.2)
        go_wp2_with fail
        refine (short_tri (some ⟨g8, 0, none⟩) _ _ l8 _ K8.out.2.1 (by omega) K8.out.1 K8.out.2.2.1 (2 * R) K8.out.2.2.2.1).mono ?_
        rintro e9 w9 ⟨g9, rs, rfl, K9⟩
        have D9 := hid (chain D8.out K9.out.2.2 (Nat.le_refl _))
        have TR9 := hid ((TR8.out.below K9.out.2.2).ans (B := w'.heap.size) hg3.out)
        have TS9 := hid (K9.out.1.ans (B := w'.heap.size) (Nat.le_trans D8.out.size K9.out.2.1))
        clear K8 K9 D8 TR8 D7 HO7 TR7 TT7
        go_wp2_with fail
        go_roundg t
        case measure => omega
        case rel => exact ⟨_, rs, _, vs, 2 * R, 4 * S + pr, rfl, rfl, by go_num, by omega, TS9.out, TR9.out, RI2.out, D9.out⟩
end Go.Proofs.YtmihjiiagpkciaaDoor

namespace Go.Proofs.YtmihjiiagpkciaaDoor
open Go.RowKit Go.Deep

set_option maxRecDepth 100000 in
set_option maxHeartbeats 4000000 in
theorem refPlus_any (p q : Option Addr) (L1 cap L2 cap' n : Nat) (xs ys : List Int) (w : World) (ha : Arg w p L1 cap xs) (hb : Arg w q L2 cap' ys) (h1 : L1 ≤ n) (h2 : L2 ≤ n) (hmx : (n = L1 ∧ L2 ≤ L1) ∨ (n = L2 ∧ L1 < L2)) (hn0 : 0 < n) (hnb : n ≤ 1000000) :
    Calls Tryd.prog 47 #[.slice p L1 cap, .slice q L2 cap'] w fun e w' => ∃ r os, e = .returned (.slice r (List.length os) (List.length os)) ∧ Ans w.heap.size w' r os (Nm.val xs + Nm.val ys) ∧ Below w.heap.size w w' := by
  obtain ⟨a1, a2, a3, a4, a5⟩ := ha
  obtain ⟨b1, b2, b3, b4, b5⟩ := hb
  have hn44 : n ≤ 17592186044000 := by omega
  have hmk := make64 (n + 1) (by omega) w
  have em : ((n + 1 : Nat) : Int) = (n : Int) + 1 := by omega
  rw [em] at hmk
  clear em
  have ho : Own (w.alloc (.cells (madeCells #[.int .u64 0] (n + 1)) 26)) w.heap.size (List.replicate (n + 1) 0) := by
    rw [made_zero]; exact Own.alloc w _
  have hb0 : Below w.heap.size w (w.alloc (.cells (madeCells #[.int .u64 0] (n + 1)) 26)) := (Below.refl _ _).alloc (Nat.le_refl _) _
  obtain ⟨W0, hW0⟩ : ∃ W0, w.alloc (.cells (madeCells #[.int .u64 0] (n + 1)) 26) = W0 := ⟨_, rfl⟩
  rw [hW0] at hmk ho hb0
  clear hW0
  have I0 : MaInv w.heap.size (n + 1) W0 (Nm.val (xs.take 0) + Nm.val (ys.take 0)) 0 0 (List.replicate (n + 1) 0) W0 :=
    ⟨⟨ho, by simp, Nm.Limbs.replicate _, by simp [Nm.val_replicate, Nm.val], Below.refl _ _, rfl⟩, by omega, fun i _ => getD_replicate _ _⟩
  have HI0 := hid I0
  have HB0 := hid hb0
  have A1 := hid a1
  have A4 := hid a4
  have A5 := hid a5
  have B1 := hid b1
  have B4 := hid b4
  have B5 := hid b5
  have fin : ∀ (c : Int) (os : List Int) (wr : World), 0 ≤ c → c ≤ 1 → MaInv w.heap.size (n + 1) W0 (Nm.val (xs.take n) + Nm.val (ys.take n)) n c os wr →
      Own (wr.setCell ⟨w.heap.size, n, none⟩ (.int .u64 c)) w.heap.size (os.set n c) ∧ (os.set n c).length = n + 1 ∧ Nm.Limbs (os.set n c) ∧ Nm.val (os.set n c) = Nm.val xs + Nm.val ys ∧ Below w.heap.size w (wr.setCell ⟨w.heap.size, n, none⟩ (.int .u64 c)) := by
    intro c os wr c0 c1 I
    obtain ⟨⟨i1, i2, i3, i4, i5, i6⟩, i7, i8⟩ := I
    refine ⟨i1.set n c, by simpa using i2, i3.set n c0 (by omega), ?_, (hb0.trans i5).setCell (p := ⟨w.heap.size, n, none⟩) (Nat.le_refl _) _⟩
    rw [Nm.val_set _ _ _ (by omega), i8 n (Nat.le_refl _), Int.sub_zero, i4, List.take_of_length_le (by omega), List.take_of_length_le (by omega)]
  have FIN := hid fin
  have hL1n : (L1 : Int) ≤ (n : Int) := by omega
  have hL2n : (L2 : Int) ≤ (n : Int) := by omega
  clear fin I0 ho hb0 a1 a4 a5 b1 b4 b5
  rcases hmx with ⟨hmx1, hmx2⟩ | ⟨hmx1, hmx2⟩
  · subst hmx1
    have hgt : ¬ (n : Int) < (L2 : Int) := by omega
    go_enter Tryd.func47, Tryd.ntmps47
    go_wp2_with fail
    go_loopw [7, 8] (fun cc i wr => ∃ (j : Nat) (c : Int) (os : List Int), j ≤ n ∧ i = .int .i64 j ∧ cc = .int .u64 c ∧ (0 ≤ c ∧ c ≤ 1) ∧ Hid (MaInv w.heap.size (n + 1) W0 (Nm.val (xs.take j) + Nm.val (ys.take j)) j c os wr)) (fun _ i _ => n - (intOf i).toNat)
    case atStart => exact ⟨0, 0, _, Nat.zero_le _, rfl, rfl, by omega, HI0.out⟩
    case round =>
      clear HI0 hmk
      obtain ⟨j, c, os, hj, rfl, rfl, ⟨c0, c1⟩, I⟩ := hrel
      by_cases hlt : j < n
      · obtain ⟨y0, hy0⟩ : ∃ y, wr.cell? ⟨w.heap.size, j, none⟩ = some (.int .u64 y) := ⟨_, I.out.1.1.cell j (by have := I.out.1.2.1; omega)⟩
        have hfr := I.out.1.1.free j
        have hBw := HB0.out.trans I.out.1.2.2.2.2.1
        have hjn : (j : Int) < (n : Int) := by omega
        have hjn1 : (j : Int) < (n : Int) + 1 := by omega
        by_cases hx : j < n
        · obtain ⟨b, off, hp, hbw, HC⟩ := A4.out.at (by have := A1.out; omega)
          subst hp
          obtain ⟨x, hxc, X⟩ : ∃ x, wr.cell? ⟨b, off + j, none⟩ = some (.int .u64 x) ∧ Hid (x = xs.getD j 0) := ⟨_, (hBw.cell (p := ⟨b, off + j, none⟩) hbw).trans (HC.out j (by have := A1.out; omega)), rfl⟩
          have hx0 := A5.out.at j
          rw [← X.out] at hx0
          obtain ⟨hx0, hx1⟩ := hx0
          have hxl : (j : Int) < (n : Int) := by omega
          by_cases hy : j < L2
          · obtain ⟨b', off', hq, hbw', HC'⟩ := B4.out.at (by have := B1.out; omega)
            subst hq
            obtain ⟨y, hyc, Y⟩ : ∃ y, wr.cell? ⟨b', off' + j, none⟩ = some (.int .u64 y) ∧ Hid (y = ys.getD j 0) := ⟨_, (hBw.cell (p := ⟨b', off' + j, none⟩) hbw').trans (HC'.out j (by have := B1.out; omega)), rfl⟩
            have hyy0 := B5.out.at j
            rw [← Y.out] at hyy0
            obtain ⟨hyy0, hyy1⟩ := hyy0
            have hyl : (j : Int) < (L2 : Int) := by omega
            have HBw := hid hBw
            clear hBw
            rcases (show x + y + c < 18446744073709551616 ∨ (x + y < 18446744073709551616 ∧ 18446744073709551616 ≤ x + y + c) ∨ 18446744073709551616 ≤ x + y by omega) with k | k | k
            · have N := hid (plus_next I.out (s := x + y + c) (c' := 0) hlt (by omega) (by omega) (by rw [← X.out, ← Y.out]; omega))
              have k1 : ¬ x + y < x := by omega
              have k2 : ¬ x + y + c < c := by omega
              clear I
              go_wp2
              go_roundw
              case rel => exact ⟨j + 1, 0, _, by omega, by go_num, rfl, by omega, N.out⟩
              case measure => simp [intOf]; omega
            · obtain ⟨k1, k2⟩ := k
              have N := hid (plus_next I.out (s := x + y + c - 18446744073709551616) (c' := 1) hlt (by omega) (by omega) (by rw [← X.out, ← Y.out]; omega))
              have k3 : ¬ x + y < x := by omega
              have r2 := wrap_over k2 (by omega)
              have k4 : x + y + c - 18446744073709551616 < c := by omega
              clear I
              go_wp2
              go_roundw
              case rel => exact ⟨j + 1, 1, _, by omega, by go_num, rfl, by omega, N.out⟩
              case measure => simp [intOf]; omega
            · have N := hid (plus_next I.out (s := x + y - 18446744073709551616 + c) (c' := 1) hlt (by omega) (by omega) (by rw [← X.out, ← Y.out]; omega))
              have r2 := wrap_over k (by omega)
              have k3 : x + y - 18446744073709551616 < x := by omega
              have k4 : ¬ x + y - 18446744073709551616 + c < c := by omega
              clear I
              go_wp2
              go_roundw
              case rel => exact ⟨j + 1, 1, _, by omega, by go_num, rfl, by omega, N.out⟩
              case measure => simp [intOf]; omega
          · have YZ := hid (getD_out (zs := ys) (k := j) (by have := B1.out; omega))
            have hyl : ¬ (j : Int) < (L2 : Int) := by omega
            clear hBw
            rcases (show x + c < 18446744073709551616 ∨ 18446744073709551616 ≤ x + c by omega) with k | k
            · have N := hid (plus_next I.out (s := x + c) (c' := 0) hlt (by omega) (by omega) (by rw [← X.out, YZ.out]; omega))
              have k2 : ¬ x + c < c := by omega
              clear I
              go_wp2
              go_roundw
              case rel => exact ⟨j + 1, 0, _, by omega, by go_num, rfl, by omega, N.out⟩
              case measure => simp [intOf]; omega
            · have N := hid (plus_next I.out (s := x + c - 18446744073709551616) (c' := 1) hlt (by omega) (by omega) (by rw [← X.out, YZ.out]; omega))
              have r2 := wrap_over k (by omega)
              have k4 : x + c - 18446744073709551616 < c := by omega
              clear I
              go_wp2
              go_roundw
              case rel => exact ⟨j + 1, 1, _, by omega, by go_num, rfl, by omega, N.out⟩
              case measure => simp [intOf]; omega
        · exact absurd hlt hx
      · have hjn : j = n := by omega
        subst hjn
        have F := hid (FIN.out c os wr c0 c1 I.out)
        obtain ⟨y0, hy0⟩ : ∃ y, wr.cell? ⟨w.heap.size, j, none⟩ = some (.int .u64 y) := ⟨_, I.out.1.1.cell j (by have := I.out.1.2.1; omega)⟩
        have hfr := I.out.1.1.free j
        clear I
        go_wp2_with fail
        refine (short_some (some ⟨w.heap.size, 0, none⟩) (j + 1) (j + 1) (os.set j c) _ F.out.2.1 (by omega) F.out.1.lies F.out.2.2.1).mono ?_
        rintro e w2 ⟨r, us, rfl, -, A2, d2⟩
        have G : Hid (Ans w.heap.size w2 r us (Nm.val xs + Nm.val ys) ∧ Below w.heap.size w w2) := by
          rw [← F.out.2.2.2.1]
          exact ⟨A2.up F.out.2.2.2.2.size, chain F.out.2.2.2.2 d2 (Nat.le_refl _)⟩
        clear A2 d2
        go_wp2_with fail
        go_ret
        exact ⟨r, us, rfl, G.out.1, G.out.2⟩
  · subst hmx1
    have hgt : (L1 : Int) < (n : Int) := by omega
    go_enter Tryd.func47, Tryd.ntmps47
    go_wp2_with fail
    go_loopw [7, 8] (fun cc i wr => ∃ (j : Nat) (c : Int) (os : List Int), j ≤ n ∧ i = .int .i64 j ∧ cc = .int .u64 c ∧ (0 ≤ c ∧ c ≤ 1) ∧ Hid (MaInv w.heap.size (n + 1) W0 (Nm.val (xs.take j) + Nm.val (ys.take j)) j c os wr)) (fun _ i _ => n - (intOf i).toNat)
    case atStart => exact ⟨0, 0, _, Nat.zero_le _, rfl, rfl, by omega, HI0.out⟩
    case round =>
      clear HI0 hmk
      obtain ⟨j, c, os, hj, rfl, rfl, ⟨c0, c1⟩, I⟩ := hrel
      by_cases hlt : j < n
      · obtain ⟨y0, hy0⟩ : ∃ y, wr.cell? ⟨w.heap.size, j, none⟩ = some (.int .u64 y) := ⟨_, I.out.1.1.cell j (by have := I.out.1.2.1; omega)⟩
        have hfr := I.out.1.1.free j
        have hBw := HB0.out.trans I.out.1.2.2.2.2.1
        have hjn : (j : Int) < (n : Int) := by omega
        have hjn1 : (j : Int) < (n : Int) + 1 := by omega
        by_cases hx : j < L1
        · obtain ⟨b, off, hp, hbw, HC⟩ := A4.out.at (by have := A1.out; omega)
          subst hp
          obtain ⟨x, hxc, X⟩ : ∃ x, wr.cell? ⟨b, off + j, none⟩ = some (.int .u64 x) ∧ Hid (x = xs.getD j 0) := ⟨_, (hBw.cell (p := ⟨b, off + j, none⟩) hbw).trans (HC.out j (by have := A1.out; omega)), rfl⟩
          have hx0 := A5.out.at j
          rw [← X.out] at hx0
          obtain ⟨hx0, hx1⟩ := hx0
          have hxl : (j : Int) < (L1 : Int) := by omega
          by_cases hy : j < n
          · obtain ⟨b', off', hq, hbw', HC'⟩ := B4.out.at (by have := B1.out; omega)
            subst hq
            obtain ⟨y, hyc, Y⟩ : ∃ y, wr.cell? ⟨b', off' + j, none⟩ = some (.int .u64 y) ∧ Hid (y = ys.getD j 0) := ⟨_, (hBw.cell (p := ⟨b', off' + j, none⟩) hbw').trans (HC'.out j (by have := B1.out; omega)), rfl⟩
            have hyy0 := B5.out.at j
            rw [← Y.out] at hyy0
            obtain ⟨hyy0, hyy1⟩ := hyy0
            have hyl : (j : Int) < (n : Int) := by omega
            have HBw := hid hBw
            clear hBw
            rcases (show x + y + c < 18446744073709551616 ∨ (x + y < 18446744073709551616 ∧ 18446744073709551616 ≤ x + y + c) ∨ 18446744073709551616 ≤ x + y by omega) with k | k | k
            · have N := hid (plus_next I.out (s := x + y + c) (c' := 0) hlt (by omega) (by omega) (by rw [← X.out, ← Y.out]; omega))
              have k1 : ¬ x + y < x := by omega
              have k2 : ¬ x + y + c < c := by omega
              clear I
              go_wp2
              go_roundw
              case rel => exact ⟨j + 1, 0, _, by omega, by go_num, rfl, by omega, N.out⟩
              case measure => simp [intOf]; omega
            · obtain ⟨k1, k2⟩ := k
              have N := hid (plus_next I.out (s := x + y + c - 18446744073709551616) (c' := 1) hlt (by omega) (by omega) (by rw [← X.out, ← Y.out]; omega))
              have k3 : ¬ x + y < x := by omega
              have r2 := wrap_over k2 (by omega)
              have k4 : x + y + c - 18446744073709551616 < c := by omega
              clear I
              go_wp2
              go_roundw
              case rel => exact ⟨j + 1, 1, _, by omega, by go_num, rfl, by omega, N.out⟩
              case measure => simp [intOf]; omega
            · have N := hid (plus_next I.out (s := x + y - 18446744073709551616 + c) (c' := 1) hlt (by omega) (by omega) (by rw [← X.out, ← Y.out]; omega))
              have r2 := wrap_over k (by omega)
              have k3 : x + y - 18446744073709551616 < x := by omega
              have k4 : ¬ x + y - 18446744073709551616 + c < c := by omega
              clear I
              go_wp2
              go_roundw
              case rel => exact ⟨j + 1, 1, _, by omega, by go_num, rfl, by omega, N.out⟩
              case measure => simp [intOf]; omega
          · exact absurd hlt hy
        · have XZ := hid (getD_out (zs := xs) (k := j) (by have := A1.out; omega))
          have hxl : ¬ (j : Int) < (L1 : Int) := by omega
          have hy : j < n := by omega
          obtain ⟨b', off', hq, hbw', HC'⟩ := B4.out.at (by have := B1.out; omega)
          subst hq
          obtain ⟨y, hyc, Y⟩ : ∃ y, wr.cell? ⟨b', off' + j, none⟩ = some (.int .u64 y) ∧ Hid (y = ys.getD j 0) := ⟨_, (hBw.cell (p := ⟨b', off' + j, none⟩) hbw').trans (HC'.out j (by have := B1.out; omega)), rfl⟩
          have hyy0 := B5.out.at j
          rw [← Y.out] at hyy0
          obtain ⟨hyy0, hyy1⟩ := hyy0
          have hyl : (j : Int) < (n : Int) := by omega
          have hy00 : ¬ y < 0 := by omega
          clear hBw
          rcases (show y + c < 18446744073709551616 ∨ 18446744073709551616 ≤ y + c by omega) with k | k
          · have N := hid (plus_next I.out (s := y + c) (c' := 0) hlt (by omega) (by omega) (by rw [XZ.out, ← Y.out]; omega))
            have k2 : ¬ y + c < c := by omega
            clear I
            go_wp2
            go_roundw
            case rel => exact ⟨j + 1, 0, _, by omega, by go_num, rfl, by omega, N.out⟩
            case measure => simp [intOf]; omega
          · have N := hid (plus_next I.out (s := y + c - 18446744073709551616) (c' := 1) hlt (by omega) (by omega) (by rw [XZ.out, ← Y.out]; omega))
            have r2 := wrap_over k (by omega)
            have k4 : y + c - 18446744073709551616 < c := by omega
            clear I
            go_wp2
            go_roundw
            case rel => exact ⟨j + 1, 1, _, by omega, by go_num, rfl, by omega, N.out⟩
            case measure => simp [intOf]; omega
      · have hjn : j = n := by omega
        subst hjn
        have F := hid (FIN.out c os wr c0 c1 I.out)
        obtain ⟨y0, hy0⟩ : ∃ y, wr.cell? ⟨w.heap.size, j, none⟩ = some (.int .u64 y) := ⟨_, I.out.1.1.cell j (by have := I.out.1.2.1; omega)⟩
        have hfr := I.out.1.1.free j
        clear I
        go_wp2_with fail
        refine (short_some (some ⟨w.heap.size, 0, none⟩) (j + 1) (j + 1) (os.set j c) _ F.out.2.1 (by omega) F.out.1.lies F.out.2.2.1).mono ?_
        rintro e w2 ⟨r, us, rfl, -, A2, d2⟩
        have G : Hid (Ans w.heap.size w2 r us (Nm.val xs + Nm.val ys) ∧ Below w.heap.size w w2) := by
          rw [← F.out.2.2.2.1]
          exact ⟨A2.up F.out.2.2.2.2.size, chain F.out.2.2.2.2 d2 (Nat.le_refl _)⟩
        clear A2 d2
        go_wp2_with fail
        go_ret
        exact ⟨r, us, rfl, G.out.1, G.out.2⟩
end Go.Proofs.YtmihjiiagpkciaaDoor

namespace Go.Proofs.YtmihjiiagpkciaaDoor
open Go.RowKit Go.Deep

theorem rdm_big (p q : Option Addr) (n cap m cap' : Nat) (zs ys : List Int) (w : World) (ha : Arg w p n cap zs) (hb : Arg w q m cap' ys) (h : 4096 < Nm.tsize zs ∨ 4096 < Nm.tsize ys) :
    Calls Tryd.prog 13 #[.slice p n cap, .slice q m cap'] w fun e w' => e = .returned (.tuple #[.slice none 0 0, .slice none 0 0, .int .i64 2]) ∧ w' = w := by
  have hn := ha.2.1
  have hn' := ha.2.2.1
  have hm := hb.2.1
  have hm' := hb.2.2.1
  have L1 := hid (top_any p n cap zs w ha.1 (by omega) ha.2.2.2.1)
  have L2 := hid (top_any q m cap' ys w hb.1 (by omega) hb.2.2.2.1)
  by_cases h1 : 4096 < Nm.tsize zs
  · have h1' : (4096 : Int) < (Nm.tsize zs : Int) := by omega
    go_enter Tryd.func13, Tryd.ntmps13
    go_wp2_with fail
    refine L1.out.mono ?_
    rintro e w' ⟨rfl, rfl⟩
    go_wp2_with fail
    go_ret3
    exact ⟨rfl, rfl⟩
  · have h1' : (Nm.tsize zs : Int) ≤ 4096 := by omega
    have h2' : (4096 : Int) < (Nm.tsize ys : Int) := by omega
    go_enter Tryd.func13, Tryd.ntmps13
    go_wp2_with fail
    refine L1.out.mono ?_
    rintro e w' ⟨rfl, rfl⟩
    go_wp2_with fail
    refine L2.out.mono ?_
    rintro e w' ⟨rfl, rfl⟩
    go_wp2_with fail
    go_ret3
    exact ⟨rfl, rfl⟩

theorem rdm_zero (p q : Option Addr) (n cap m cap' : Nat) (zs ys : List Int) (w : World) (ha : Arg w p n cap zs) (hb : Arg w q m cap' ys) (tz : Nm.tsize zs ≤ 4096) (ty : Nm.tsize ys = 0) :
    Calls Tryd.prog 13 #[.slice p n cap, .slice q m cap'] w fun e w' => e = .returned (.tuple #[.slice none 0 0, .slice none 0 0, .int .i64 4]) ∧ w' = w := by
  have hn := ha.2.1
  have hn' := ha.2.2.1
  have hm := hb.2.1
  have hm' := hb.2.2.1
  have L1 := hid (top_any p n cap zs w ha.1 (by omega) ha.2.2.2.1)
  have L2 := top_any q m cap' ys w hb.1 (by omega) hb.2.2.2.1
  have h1' : (Nm.tsize zs : Int) ≤ 4096 := by omega
  rw [ty] at L2
  have HL2 := hid L2
  clear L2
  go_enter Tryd.func13, Tryd.ntmps13
  go_wp2_with fail
  refine L1.out.mono ?_
  rintro e w' ⟨rfl, rfl⟩
  go_wp2_with fail
  refine HL2.out.mono ?_
  rintro e w' ⟨rfl, rfl⟩
  go_wp2_with fail
  refine HL2.out.mono ?_
  rintro e w' ⟨rfl, rfl⟩
  go_wp2_with fail
  go_ret3
  exact ⟨rfl, rfl⟩

theorem rdm_ok (p q : Option Addr) (n cap m cap' : Nat) (zs ys : List Int) (w : World) (ha : Arg w p n cap zs) (hb : Arg w q m cap' ys) (tz : Nm.tsize zs ≤ 4096) (ty : Nm.tsize ys ≤ 4096) (hy : 0 < Nm.tsize ys) :
    Calls Tryd.prog 13 #[.slice p n cap, .slice q m cap'] w fun e w' => Splits (Nm.val zs) (Nm.val ys) w e w' := by
  have hn := ha.2.1
  have hn' := ha.2.2.1
  have hm := hb.2.1
  have hm' := hb.2.2.1
  have L1 := hid (top_any p n cap zs w ha.1 (by omega) ha.2.2.2.1)
  have L2 := hid (top_any q m cap' ys w hb.1 (by omega) hb.2.2.2.1)
  have DV := hid (refDivide_any p q n cap m cap' zs ys w ha hb tz ty hy)
  have h1' : (Nm.tsize zs : Int) ≤ 4096 := by omega
  have h2' : (Nm.tsize ys : Int) ≤ 4096 := by omega
  have h3' : ((Nm.tsize ys : Int) == 0) = false := by rw [beq_eq_false_iff_ne]; omega
  clear ha hb tz ty hy
  go_enter Tryd.func13, Tryd.ntmps13
  go_wp2_with fail
  refine L1.out.mono ?_
  rintro e w' ⟨rfl, rfl⟩
  go_wp2_with fail
  refine L2.out.mono ?_
  rintro e w' ⟨rfl, rfl⟩
  go_wp2_with fail
  refine L2.out.mono ?_
  rintro e w' ⟨rfl, rfl⟩
  go_wp2_with fail
  refine DV.out.mono ?_
  rintro e w1 ⟨r1, os, r2, rs, rfl, A1, A2, hb⟩
  have F : Hid (Splits (Nm.val zs) (Nm.val ys) w' (.returned (.tuple #[.slice r1 (List.length os) (List.length os), .slice r2 (List.length rs) (List.length rs), .int .i64 0])) w1) := ⟨r1, os, r2, rs, rfl, A1, A2, hb⟩
  clear A1 A2 hb DV
  go_wp2_with fail
  go_ret3
  exact F.out

theorem rnear_big (p q : Option Addr) (n cap m cap' : Nat) (zs ys : List Int) (w : World) (ha : Arg w p n cap zs) (hb : Arg w q m cap' ys) (h : 4096 < Nm.tsize zs ∨ 4096 < Nm.tsize ys) :
    Calls Tryd.prog 23 #[.slice p n cap, .slice q m cap'] w fun e w' => e = .returned (.tuple #[.slice none 0 0, .int .i64 2]) ∧ w' = w := by
  have H := hid (rdm_big p q n cap m cap' zs ys w ha hb h)
  clear h
  go_enter Tryd.func23, Tryd.ntmps23
  go_wp2_with fail
  refine H.out.mono ?_
  rintro e w' ⟨rfl, rfl⟩
  go_wp2_with fail
  go_ret2
  exact ⟨rfl, rfl⟩

theorem rnear_zero (p q : Option Addr) (n cap m cap' : Nat) (zs ys : List Int) (w : World) (ha : Arg w p n cap zs) (hb : Arg w q m cap' ys) (tz : Nm.tsize zs ≤ 4096) (ty : Nm.tsize ys = 0) :
    Calls Tryd.prog 23 #[.slice p n cap, .slice q m cap'] w fun e w' => e = .returned (.tuple #[.slice none 0 0, .int .i64 4]) ∧ w' = w := by
  have H := hid (rdm_zero p q n cap m cap' zs ys w ha hb tz ty)
  clear ty
  go_enter Tryd.func23, Tryd.ntmps23
  go_wp2_with fail
  refine H.out.mono ?_
  rintro e w' ⟨rfl, rfl⟩
  go_wp2_with fail
  go_ret2
  exact ⟨rfl, rfl⟩

/-- The lowest limb tells whether a number is odd. -/
theorem odd_low {os : List Int} : os.getD 0 0 % 2 = Nm.val os % 2 := by
  cases os with
  | nil => rfl
  | cons z zs => simp only [List.getD_cons_zero, Nm.val]; omega

/-- The end of the reference's Near: one more, or not. -/
def NearEnd (A B Q : Int) (w : World) (s1 : Option Addr) (os : List Int) : Prop :=
  ∀ (w3 : World), Below w.heap.size w w3 → Ans w.heap.size w3 s1 os Q → nearI A B = Q + 1 →
    Calls Tryd.prog 47 #[.slice s1 (List.length os) (List.length os), .slice (some ⟨w3.heap.size, 0, none⟩) 1 1] (w3.alloc (.cells #[.int .u64 1] 26)) fun e w' => ∃ r us, e = .returned (.slice r (List.length us) (List.length us)) ∧ Ans w.heap.size w' r us (nearI A B) ∧ Below w.heap.size w w'

theorem near_end {A B Q : Int} {w : World} {s1 : Option Addr} {os : List Int} (hQ : Q < Nm.pw 4096) : NearEnd A B Q w s1 os := by
  intro w3 hb ha hn
  have hb4 : Below w3.heap.size w3 (w3.alloc (.cells #[.int .u64 1] 26)) := (Below.refl _ _).alloc (Nat.le_refl _) _
  have A5 : Arg (w3.alloc (.cells #[.int .u64 1] 26)) (some ⟨w3.heap.size, 0, none⟩) 1 1 [1] := ⟨rfl, Nat.le_refl _, by omega, (Own.alloc w3 [1]).lies, limb_one (by omega)⟩
  have hA := ha.below hb4 (Nat.le_refl _)
  have hs := ha.small hQ
  have fin : ∀ (e : Ending) (w' : World), (∃ r us, e = .returned (.slice r (List.length us) (List.length us)) ∧ Ans (w3.alloc (.cells #[.int .u64 1] 26)).heap.size w' r us (Nm.val os + Nm.val [1]) ∧ Below (w3.alloc (.cells #[.int .u64 1] 26)).heap.size (w3.alloc (.cells #[.int .u64 1] 26)) w') →
      ∃ r us, e = .returned (.slice r (List.length us) (List.length us)) ∧ Ans w.heap.size w' r us (nearI A B) ∧ Below w.heap.size w w' := by
    rintro e w' ⟨r, us, rfl, h1, h2⟩
    rw [hA.2.2.2.1, show Nm.val [1] = 1 by simp [Nm.val], ← hn] at h1
    have c4 := chain hb hb4 (Nat.le_refl _)
    exact ⟨r, us, rfl, h1.up c4.size, chain c4 h2 (Nat.le_refl _)⟩
  by_cases h0 : 1 ≤ os.length
  · exact (refPlus_any s1 _ os.length os.length 1 1 os.length os [1] _ (hA.argS hQ) A5 (Nat.le_refl _) h0 (.inl ⟨rfl, h0⟩) (by omega) (by omega)).mono fin
  · exact (refPlus_any s1 _ os.length os.length 1 1 1 os [1] _ (hA.argS hQ) A5 (by omega) (Nat.le_refl _) (.inr ⟨rfl, by omega⟩) (by omega) (by omega)).mono fin

set_option maxRecDepth 100000 in
set_option maxHeartbeats 4000000 in
theorem rnear_ok (p q : Option Addr) (n cap m cap' : Nat) (za zb : List Int) (w : World) (ha : Arg w p n cap za) (hb : Arg w q m cap' zb) (tz : Nm.tsize za ≤ 4096) (ty : Nm.tsize zb ≤ 4096) (hy : 0 < Nm.tsize zb) :
    Calls Tryd.prog 23 #[.slice p n cap, .slice q m cap'] w fun e w' => ∃ r os, e = .returned (.tuple #[.slice r (List.length os) (List.length os), .int .i64 0]) ∧ Ans w.heap.size w' r os (nearI (Nm.val za) (Nm.val zb)) ∧ Below w.heap.size w w' := by
  have va := (Nm.val_bd za ha.2.2.2.2).1
  have vb : 0 < Nm.val zb := by
    have h1 := Nm.tsize_zero_iff hb.2.2.2.2
    have h2 := (Nm.val_bd zb hb.2.2.2.2).1
    omega
  have hs : Nm.val za < Nm.pw 4096 := (Nm.tsize_le_iff ha.2.2.2.2 4096).1 tz
  have SF := hid (split_facts va hs vb)
  have DM := hid (rdm_ok p q n cap m cap' za zb w ha hb tz ty hy)
  have HB := hid hb
  obtain ⟨A, hA⟩ : ∃ A, Nm.val za = A := ⟨_, rfl⟩
  obtain ⟨B, hB⟩ : ∃ B, Nm.val zb = B := ⟨_, rfl⟩
  rw [hA, hB] at SF DM
  have HVB := hid hB
  rw [hA, hB]
  clear va vb hs ha hb tz ty hy hA hB
  obtain ⟨Q, hQ⟩ : ∃ Q, A / B = Q := ⟨_, rfl⟩
  obtain ⟨R, hR⟩ : ∃ R, A % B = R := ⟨_, rfl⟩
  simp only [Splits, hQ, hR] at DM
  rw [hQ, hR] at SF
  have NI : Hid (nearI A B = if 2 * R < B ∨ (2 * R = B ∧ Q % 2 = 0) then Q else Q + 1) := by show _ = _; rw [nearI, hQ, hR]
  clear hQ hR
  go_enter Tryd.func23, Tryd.ntmps23
  go_wp2_with fail
  refine DM.out.mono ?_
  rintro e w1 ⟨s1, os, s2, rs, rfl, B1, B2, hb1⟩
  have HB1 := hid B1
  have HB2 := hid B2
  have D1 := hid hb1
  have HBB := hid (HB.out.below hb1 (Nat.le_refl _))
  have hrl : Hid (rs.length ≤ 4096) := B2.small SF.out.2.2.1
  clear B1 B2 hb1 DM
  go_wp2_with fail
  refine (doubled_any s2 rs.length rs.length rs 0 _ rfl (by have := hrl.out; omega) HB2.out.1 HB2.out.2.1 (by omega) (by omega)).mono ?_
  rintro e w2 ⟨ds, rfl, K⟩
  have AD : Hid (Arg w2 (some ⟨w1.heap.size, 0, none⟩) (rs.length + 1) (rs.length + 1) ds) := ⟨K.out.2.1, Nat.le_refl _, by have := hrl.out; omega, K.out.1.lies, K.out.2.2.1⟩
  have VD : Hid (Nm.val ds = 2 * R) := by show _ = _; rw [K.out.2.2.2.1, HB2.out.2.2.2.1]; omega
  have D2 := hid (chain D1.out K.out.2.2.2.2 (Nat.le_refl _))
  have HB1' := hid (HB1.out.below K.out.2.2.2.2 (Nat.le_refl _))
  have HBB' := hid (HBB.out.below K.out.2.2.2.2 (Nat.le_refl _))
  clear K HB1 HB2 D1 HBB
  obtain ⟨c, HC⟩ : ∃ c, Hid (cmpI (2 * R) B = c) := ⟨_, rfl⟩
  go_wp2_with fail
  refine (order_is c _ q _ _ m cap' ds zb _ AD.out HBB'.out (by rw [VD.out, HVB.out]; exact HC.out)).mono ?_
  rintro e w3 ⟨rfl, hb3⟩
  have HB1 := hid (HB1'.out.below hb3 (Nat.le_refl _))
  have D3 := hid (chain D2.out hb3 (Nat.le_refl _))
  clear hb3 HB1' D2 AD VD HBB'
  have NE := hid (near_end (A := A) (B := B) (w := w) (s1 := s1) (os := os) SF.out.2.1)
  have fin : nearI A B = Q → ∃ r os', Ending.returned (.tuple #[.slice s1 (List.length os) (List.length os), .int .i64 0]) = .returned (.tuple #[.slice r (List.length os') (List.length os'), .int .i64 0]) ∧ Ans w.heap.size w3 r os' (nearI A B) ∧ Below w.heap.size w w3 :=
    fun e => ⟨s1, os, rfl, by rw [e]; exact HB1.out, D3.out⟩
  have FIN := hid fin
  have OD := hid (odd_low (os := os))
  rw [HB1.out.2.2.2.1] at OD
  clear fin
  by_cases h0 : os.length = 0
  · have hQ0 : Q = 0 := by
      have h1 := HB1.out.2.2.2.1
      rw [List.eq_nil_of_length_eq_zero h0] at h1
      simp [Nm.val] at h1
      omega
    have hl0 : ¬ (0 : Int) < (os.length : Int) := by omega
    have HQ0 := hid hQ0
    clear h0 hQ0
    rcases (show 2 * R < B ∨ 2 * R = B ∨ B < 2 * R by omega) with h | h | h
    · have hc : c = -1 := by rw [← HC.out]; exact cmpI_lt h
      have E : Hid (nearI A B = Q) := by show _ = _; rw [NI.out, if_pos (.inl h)]
      subst hc
      clear h
      go_wp2_with fail
      go_ret2
      exact FIN.out E.out
    · have hc : c = 0 := by rw [← HC.out]; exact cmpI_eq h
      have E : Hid (nearI A B = Q) := by show _ = _; rw [NI.out, if_pos (.inr ⟨h, by rw [HQ0.out]; rfl⟩)]
      subst hc
      clear h
      go_wp2_with fail
      go_ret2
      exact FIN.out E.out
    · have hc : c = 1 := by rw [← HC.out]; exact cmpI_gt h
      have E : Hid (nearI A B = Q + 1) := by show _ = _; rw [NI.out, if_neg (by omega)]
      subst hc
      clear h
      have PL := hid (NE.out w3 D3.out HB1.out E.out)
      go_wp2_with fail
      refine PL.out.mono ?_
      rintro e w5 ⟨t, us, rfl, B5, hb5⟩
      have HB5 := hid B5
      have D5 := hid hb5
      clear B5 hb5
      go_wp2_with fail
      go_ret2
      exact ⟨t, us, rfl, HB5.out, D5.out⟩
  · have hl0 : (0 : Int) < (os.length : Int) := by omega
    obtain ⟨b, off, hp, hbw, HC1⟩ := HB1.out.1.at (by omega)
    subst hp
    obtain ⟨x, hx, X⟩ : ∃ x, w3.cell? ⟨b, off, none⟩ = some (.int .u64 x) ∧ Hid (x = os.getD 0 0) := ⟨_, HC1.out 0 (by omega), rfl⟩
    rw [← X.out] at OD
    have hx0 := HB1.out.2.1.at 0
    rw [← X.out] at hx0
    obtain ⟨hx0, hx1⟩ := hx0
    clear h0
    rcases (show 2 * R < B ∨ (2 * R = B ∧ Q % 2 = 0) ∨ (2 * R = B ∧ Q % 2 = 1) ∨ B < 2 * R by omega) with h | h | h | h
    · have hc : c = -1 := by rw [← HC.out]; exact cmpI_lt h
      have E : Hid (nearI A B = Q) := by show _ = _; rw [NI.out, if_pos (.inl h)]
      subst hc
      clear h
      go_wp2_with fail
      go_ret2
      exact FIN.out E.out
    · have hc : c = 0 := by rw [← HC.out]; exact cmpI_eq h.1
      have E : Hid (nearI A B = Q) := by show _ = _; rw [NI.out, if_pos (.inr h)]
      have hm2 : x % 2 = 0 := OD.out.trans h.2
      subst hc
      clear h
      go_wp2_with fail
      go_ret2
      exact FIN.out E.out
    · have hc : c = 0 := by rw [← HC.out]; exact cmpI_eq h.1
      have E : Hid (nearI A B = Q + 1) := by show _ = _; rw [NI.out, if_neg (by omega)]
      have hm2 : x % 2 = 1 := OD.out.trans h.2
      subst hc
      clear h
      have PL := hid (NE.out w3 D3.out HB1.out E.out)
      go_wp2_with fail
      refine PL.out.mono ?_
      rintro e w5 ⟨t, us, rfl, B5, hb5⟩
      have HB5 := hid B5
      have D5 := hid hb5
      clear B5 hb5
      go_wp2_with fail
      go_ret2
      exact ⟨t, us, rfl, HB5.out, D5.out⟩
    · have hc : c = 1 := by rw [← HC.out]; exact cmpI_gt h
      have E : Hid (nearI A B = Q + 1) := by show _ = _; rw [NI.out, if_neg (by omega)]
      subst hc
      clear h
      have PL := hid (NE.out w3 D3.out HB1.out E.out)
      go_wp2_with fail
      refine PL.out.mono ?_
      rintro e w5 ⟨t, us, rfl, B5, hb5⟩
      have HB5 := hid B5
      have D5 := hid hb5
      clear B5 hb5
      go_wp2_with fail
      go_ret2
      exact ⟨t, us, rfl, HB5.out, D5.out⟩
end Go.Proofs.YtmihjiiagpkciaaDoor

namespace Go.Proofs.YtmihjiiagpkciaaDoor
open Go.RowKit Go.Deep

theorem alike_nil (w : World) : Calls Tryd.prog 9 #[.slice none 0 0, .slice none 0 0] w fun e w' => e = .returned (.bool true) ∧ Below w.heap.size w w' :=
  alike_is true none none 0 0 0 0 [] [] w ⟨rfl, Nat.le_refl _, by omega, Lies.nil _ _, Nm.Limbs.nil⟩ ⟨rfl, Nat.le_refl _, by omega, Lies.nil _ _, Nm.Limbs.nil⟩ rfl

set_option maxRecDepth 100000 in
set_option maxHeartbeats 4000000 in
theorem divides_true (p q : Option Addr) (n cap m cap' : Nat) (za zb : List Int) (w : World) (ha : Arg w p n cap za) (hb : Arg w q m cap' zb) :
    Calls Tryd.prog 4 #[.slice p n cap, .slice q m cap'] w fun e w' => e = .returned (.bool true) ∧ Below w.heap.size w w' := by
  have HA := hid ha
  have HB := hid hb
  clear ha hb
  by_cases hbig : 4096 < Nm.tsize za ∨ 4096 < Nm.tsize zb
  · have HG := hid hbig
    clear hbig
    go_enter Tryd.func4, Tryd.ntmps4
    go_wp2_with fail
    refine (rdm_big p q n cap m cap' za zb _ HA.out HB.out HG.out).mono ?_
    rintro e w1 ⟨rfl, rfl⟩
    go_wp2_with fail
    refine (divMod_big p q n cap m cap' za zb _ HA.out HB.out HG.out).mono ?_
    rintro e w1 ⟨rfl, rfl⟩
    go_wp2_with fail
    refine (alike_nil _).mono ?_
    rintro e w2 ⟨rfl, hb2⟩
    have D2 := hid hb2
    clear hb2
    go_wp2_with fail
    refine (alike_nil _).mono ?_
    rintro e w3 ⟨rfl, hb3⟩
    have D3 := hid (chain D2.out hb3 (Nat.le_refl _))
    clear hb3
    go_wp2_with fail
    go_ret
    exact ⟨rfl, D3.out⟩
  by_cases hzero : Nm.tsize zb = 0
  · have HZ := hid hzero
    have HG : Hid (Nm.tsize za ≤ 4096) := by show _ ≤ _; omega
    clear hbig hzero
    go_enter Tryd.func4, Tryd.ntmps4
    go_wp2_with fail
    refine (rdm_zero p q n cap m cap' za zb _ HA.out HB.out HG.out HZ.out).mono ?_
    rintro e w1 ⟨rfl, rfl⟩
    go_wp2_with fail
    refine (divMod_zero p q n cap m cap' za zb _ HA.out HB.out HG.out HZ.out).mono ?_
    rintro e w2 ⟨rfl, hb2⟩
    have D2 := hid hb2
    clear hb2
    go_wp2_with fail
    refine (alike_nil _).mono ?_
    rintro e w3 ⟨rfl, hb3⟩
    have D3 := hid (chain D2.out hb3 (Nat.le_refl _))
    clear hb3
    go_wp2_with fail
    refine (alike_nil _).mono ?_
    rintro e w4 ⟨rfl, hb4⟩
    have D4 := hid (chain D3.out hb4 (Nat.le_refl _))
    clear hb4
    go_wp2_with fail
    go_ret
    exact ⟨rfl, D4.out⟩
  · have HG : Hid (Nm.tsize za ≤ 4096) := by show _ ≤ _; omega
    have HG' : Hid (Nm.tsize zb ≤ 4096) := by show _ ≤ _; omega
    have HZ : Hid (0 < Nm.tsize zb) := by show _ < _; omega
    have va := (Nm.val_bd za HA.out.2.2.2.2).1
    have vb : 0 < Nm.val zb := by
      have h1 := Nm.tsize_zero_iff HB.out.2.2.2.2
      have h2 := (Nm.val_bd zb HB.out.2.2.2.2).1
      omega
    have SF := hid (split_facts va ((Nm.tsize_le_iff HA.out.2.2.2.2 4096).1 HG.out) vb)
    clear hbig hzero va vb
    go_enter Tryd.func4, Tryd.ntmps4
    go_wp2_with fail
    refine (rdm_ok p q n cap m cap' za zb _ HA.out HB.out HG.out HG'.out HZ.out).mono ?_
    rintro e w1 ⟨s1, os, s2, rs, rfl, B1, B2, hb1⟩
    have HB1 := hid B1
    have HB2 := hid B2
    have D1 := hid hb1
    have HA1 := hid (HA.out.below hb1 (Nat.le_refl _))
    have HBB1 := hid (HB.out.below hb1 (Nat.le_refl _))
    clear B1 B2 hb1
    go_wp2_with fail
    refine (divMod_ok p q n cap m cap' za zb _ HA1.out HBB1.out HG.out HG'.out HZ.out).mono ?_
    rintro e w2 ⟨t1, us, t2, vs, rfl, C1, C2, hb2⟩
    have HC1 := hid C1
    have HC2 := hid C2
    have HB1' := hid (HB1.out.below hb2 (Nat.le_refl _))
    have HB2' := hid (HB2.out.below hb2 (Nat.le_refl _))
    have D2 := hid (chain D1.out hb2 (Nat.le_refl _))
    clear C1 C2 hb2 HB1 HB2 D1 HA1 HBB1
    go_wp2_with fail
    refine (alike_ans HC1.out HB1'.out (by have := HC1.out.small SF.out.2.1; omega)).mono ?_
    rintro e w3 ⟨rfl, hb3⟩
    have HC3 := hid (HC2.out.below hb3 (Nat.le_refl _))
    have HB3 := hid (HB2'.out.below hb3 (Nat.le_refl _))
    have D3 := hid (chain D2.out hb3 (Nat.le_refl _))
    clear hb3
    go_wp2_with fail
    refine (alike_ans HC3.out HB3.out (by have := HC3.out.small SF.out.2.2.1; omega)).mono ?_
    rintro e w4 ⟨rfl, hb4⟩
    have D4 := hid (chain D3.out hb4 (Nat.le_refl _))
    clear hb4
    go_wp2_with fail
    go_ret
    exact ⟨rfl, D4.out⟩
end Go.Proofs.YtmihjiiagpkciaaDoor
