/-
  THE WALK OF NumeralNear.
-/
import Derived.Test.YtdolimhddmddnaaDoorNNear1
import Derived.Test.YtdolimhddmddnaaDoorSmall
import Derived.Deep.CutRange
import Derived.Deep.CutBlock
namespace Go.Proofs.YtdolimhddmddnaaDoor
open Go.RowKit Go.Deep

structure ShutR (p : Prop) : Prop where
  out : p

theorem dv_inj {ds : List Int} {n : Nat} (h : Digs ds) (hl : ds.length = n) : ds.map (fun d => d - 48) = Dn.dg 10 n (dv ds) := by
  have := Dn.dg_tv (B := 10) (by omega) n (ds.map (fun d => d - 48)) (by simpa using hl) (fun d hd => by
    obtain ⟨e, he, rfl⟩ := List.mem_map.1 hd
    have := h e he
    omega)
  exact this.symm

theorem near_first {ds : List Int} {c : Bool} (h : Rounded [49, 50, 51, 53] ds 3 false c) : ds = [49, 50, 52] ∧ c = false := by
  obtain ⟨h1, h2, u, h3, h4⟩ := h
  have e1 : dv ([49, 50, 51, 53].take 3) = 123 := by decide
  have e2 : dv ([49, 50, 51, 53].drop 3) = 5 := by decide
  have e3 : (10 : Int) ^ ([49, 50, 51, 53].drop 3 : List Int).length = 10 := by decide
  have b := dv_bd h1
  rw [h2] at b
  rw [e1] at h4
  have hu : u = true := by
    cases u with
    | true => rfl
    | false =>
      have := h3.2 rfl
      rw [e1, e2, e3] at this
      have := this.2 (by omega)
      omega
  subst hu
  have hc : c = false := by
    cases c with
    | false => rfl
    | true => simp at h4; omega
  subst hc
  simp at h4
  have hv : dv ds = 124 := by omega
  have hm := dv_inj h1 h2
  rw [hv, show Dn.dg 10 3 124 = [1, 2, 4] by decide] at hm
  match ds, h2, hm with
  | [a, b, c], _, hm =>
    simp only [List.map_cons, List.map_nil, List.cons.injEq, and_true] at hm
    obtain ⟨x, y, z⟩ := hm
    refine ⟨?_, rfl⟩
    rw [show a = 49 by omega, show b = 50 by omega, show c = 52 by omega]

/-- What the arithmetic of the look needs. -/
structure NearIs (A KV K R M : Int) (u more : Bool) : Prop where
  a : A = K * M + R
  kv : KV = K + (if u then 1 else 0)
  r0 : 0 ≤ R
  r1 : R < M
  k0 : 0 ≤ K
  up : u = true → M ≤ 2 * R ∧ (2 * R = M → more = true ∨ K % 2 = 1)
  dn : u = false → 2 * R ≤ M ∧ (2 * R = M → more = false ∧ K % 2 = 0)

theorem NearIs.down {A KV K R M : Int} {more : Bool} (h : NearIs A KV K R M false more) : KV * M = A - R ∧ 2 * R ≤ M ∧ 0 ≤ R ∧ (2 * R = M → more = false ∧ KV % 2 = 0) := by
  have kv : KV = K := by have := h.kv; simpa using this
  have d := h.dn rfl
  rw [kv]
  exact ⟨by have := h.a; omega, d.1, h.r0, d.2⟩

theorem NearIs.upw {A KV K R M : Int} {more : Bool} (h : NearIs A KV K R M true more) : KV * M - A = M - R ∧ M ≤ 2 * R ∧ R < M ∧ (2 * R = M → more = true ∨ KV % 2 = 0) := by
  have kv : KV = K + 1 := by have := h.kv; simpa using this
  have d := h.up rfl
  rw [kv, Int.add_mul, Int.one_mul]
  refine ⟨by have := h.a; omega, d.1, h.r1, fun c => ?_⟩
  rcases d.2 c with e | e
  · exact .inl e
  · right; omega

theorem bit0_is {B : Nat} {w : World} {r : Option Addr} {os : List Int} {KV : Int} (h : Ans B w r os KV) (hv : KV < Nm.pw 4096) (he : KV % 2 = 0) : Calls Tryd.prog 23 #[.slice r (List.length os) (List.length os), .int .i64 0] w fun e w' => e = .returned (.int .i64 0) ∧ w' = w := by
  have := bit_any r _ _ os 0 0 w (h.argT hv) (by omega) rfl
  rw [h.2.2.2.1, Int.pow_zero, Int.ediv_one, he] at this
  exact this

set_option maxRecDepth 100000 in
set_option maxHeartbeats 8000000 in
theorem near_any (s : ByteArray) (xs : List Int) (keep : Int) (more : Bool) (w : World) (hs : Str s xs) (hl : xs.length ≤ 140737488351232) (hk0 : -9223372036854775808 ≤ keep) (hk1 : keep ≤ 9223372036854775807) :
    Calls Tryd.prog 6 #[.string s, .int .i64 keep, .bool more] w fun e w' => e = .returned (.bool true) ∧ Below w.heap.size w w' := by
  obtain ⟨n, HN⟩ : ∃ n, Hid (xs.length = n) := ⟨_, rfl⟩
  have hsz : s.size = n := by rw [hs.size, HN.out]
  have HS := hid hs
  have HLL := hid hl
  have R0 := hid (round_any ⟨#[49, 50, 51, 53]⟩ [49, 50, 51, 53] 3 false w rfl (by simp) (fun d hd => by simp at hd; omega) (by simp) (by omega) (by omega))
  have HK1 := hid hk1
  clear hs hl
  go_enter Tryd.func6, Tryd.ntmps6
  go_wp2_with fail
  refine R0.out.mono ?_
  rintro e w1 ⟨rt, d1⟩
  obtain ⟨s0, ds0, c0, rfl, hs0, hr0⟩ := rt.2 (by simp)
  obtain ⟨rfl, rfl⟩ := near_first hr0
  obtain rfl : s0 = ⟨#[49, 50, 52]⟩ := hs0.inj rfl
  have D1 := hid d1
  have RW := hid (rowed_any s xs w1 HS.out (by have := HLL.out; omega))
  clear rt hs0 hr0 d1 R0
  go_wp2_with fail
  refine RW.out.mono ?_
  rintro e w2 ⟨⟨b, rfl, hb⟩, rfl⟩
  clear RW
  cases b with
  | false =>
    clear hb
    go_wp2_with fail
    go_ret
    exact ⟨rfl, D1.out⟩
  | true =>
    obtain ⟨hd, hne⟩ := hb.1 rfl
    have HD := hid hd
    have HNE := hid hne
    clear hb hd hne
    by_cases hkn : keep < 0
    · go_wp2_with fail
      go_ret
      exact ⟨rfl, D1.out⟩
    have hk2 : 0 ≤ keep := by omega
    by_cases h4 : 4000 < n
    · have h4i : (4000 : Int) < (n : Int) := by omega
      clear h4
      go_wp2_with fail
      go_ret
      exact ⟨rfl, D1.out⟩
    have h4i : (n : Int) ≤ 4000 := by omega
    have RD := hid (round_any s xs keep more w2 HS.out HNE.out HD.out HLL.out hk2 hk1)
    clear hkn h4
    by_cases hge : (n : Int) ≤ keep
    · go_wp2_with fail
      refine RD.out.mono ?_
      rintro e w3 ⟨rt, d3⟩
      have e3 := rt.1 (by have := HN.out; omega)
      subst e3
      have D3 := hid (chain D1.out d3 (Nat.le_refl _))
      clear rt d3 RD
      go_wp2_with fail
      go_ret
      exact ⟨rfl, D3.out⟩
    have hlt : keep < (n : Int) := by omega
    go_wp2_with fail
    refine RD.out.mono ?_
    rintro e w3 ⟨rt, d3⟩
    obtain ⟨s', ds, c, rfl, hs', hr⟩ := rt.2 (by have := HN.out; omega)
    have D3 := hid (chain D1.out d3 (Nat.le_refl _))
    obtain ⟨k, HK⟩ : ∃ k, Hid (keep.toNat = k) := ⟨_, rfl⟩
    rw [HK.out] at hr
    obtain ⟨m, HM⟩ : ∃ m, Hid (n - k = m) := ⟨_, rfl⟩
    have hkk : Hid (keep = (k : Int)) := by show _ = _; have := HK.out; omega
    obtain ⟨r1, r2, u, r3, r4⟩ := hr
    have hsz' : s'.size = k := by rw [hs'.size, r2]
    have S0 : Str (⟨#[48]⟩ ++ s') ([48] ++ ds) := Str.append rfl hs'
    have DG : ∀ h : Int, 48 ≤ h → h ≤ 57 → Digs ([h] ++ ds) := fun h a b d hd => by
      rw [List.mem_append] at hd
      rcases hd with hd | hd
      · simp at hd; omega
      · exact r1 d hd
    have RW2 : Hid (Calls Tryd.prog 16 #[.string (⟨#[48]⟩ ++ s')] w3 fun e w' => e = .returned (.bool true) ∧ w' = w3) := by
      refine (rowed_any _ _ w3 S0 (by simp; have := HN.out; have := HK.out; omega)).mono ?_
      rintro e w' ⟨⟨b, rfl, hb⟩, rfl⟩
      exact ⟨by rw [hb.2 ⟨DG 48 (by omega) (by omega), by simp⟩], rfl⟩
    have hkn : k ≤ 4000 := by have := hkk.out; omega
    have hm4 : m ≤ 4000 := by have := HM.out; omega
    have hkm : k + m = n := by have := HM.out; have := hkk.out; omega
    have NI : Hid (NearIs (dv xs) (dv ds + (if c then 10 ^ k else 0)) (dv (xs.take k)) (dv (xs.drop k)) (10 ^ m) u more) := by
      have hdl : (xs.drop k).length = m := by have := HN.out; simp; omega
      have dd : Digs (xs.drop k) := fun d h => HD.out d (List.mem_of_mem_drop h)
      have dt : Digs (xs.take k) := fun d h => HD.out d (List.mem_of_mem_take h)
      have b1 := dv_bd dd
      have b2 := dv_bd dt
      rw [hdl] at b1
      have ea : dv xs = dv (xs.take k) * 10 ^ m + dv (xs.drop k) := by
        have := dv_append (xs.take k) (xs.drop k)
        rw [List.take_append_drop, hdl] at this
        exact this
      have r3' := r3
      unfold UpIs at r3'
      rw [hdl] at r3'
      exact ⟨ea, r4, b1.1, b1.2, b2.1, r3'.1, r3'.2⟩
    have XL : ShutR (dv xs < Nm.pw 4096 ∧ (10 : Int) ^ m < Nm.pw 4096) := by
      have b := dv_bd HD.out
      refine ⟨?_, ten_small (by omega)⟩
      have := ten_small (j := xs.length) (by have := HN.out; omega)
      omega
    have KVL : ShutR (dv ds + (if c then 10 ^ k else 0) < Nm.pw 4096 ∧ (dv ds + (if c then 10 ^ k else 0)) * 10 ^ m < Nm.pw 4096) := by
      have b := dv_bd r1
      rw [r2] at b
      have hb : dv ds + (if c then 10 ^ k else 0) < 10 ^ (k + 1) := by
        rw [Int.pow_succ]
        cases c <;> simp <;> omega
      have h1 := ten_small (j := k + 1) (by omega)
      have h2 := ten_small (j := k + 1 + m) (by omega)
      refine ⟨by omega, ?_⟩
      have h3 := Int.mul_lt_mul_of_pos_right hb (show (0 : Int) < 10 ^ m from Int.pow_pos (by omega))
      rw [← Int.pow_add] at h3
      omega
    have RE := hid (fun W => read_any s xs W HS.out (by have := HLL.out; omega) HD.out HNE.out XL.out.1)
    have RK : Hid (∀ (W : World) (h : ByteArray), (c = false → h = ⟨#[48]⟩) → (c = true → h = ⟨#[49]⟩) → Calls Tryd.prog 18 #[.string (h ++ s')] W fun e w' => ∃ r os, e = .returned (.tuple #[.slice r (List.length os) (List.length os), .int .i64 0, .int .i64 0]) ∧ Ans W.heap.size w' r os (dv ds + (if c then 10 ^ k else 0)) ∧ Below W.heap.size W w') := by
      intro W h hc0 hc1
      cases c with
      | false =>
        obtain rfl := hc0 rfl
        have e : dv ([48] ++ ds) = dv ds + 0 := by rw [List.singleton_append, dv_cons]; simp
        have := read_any (⟨#[48]⟩ ++ s') ([48] ++ ds) W S0 (by simp; omega) (DG 48 (by omega) (by omega)) (by simp) (by rw [e]; simpa using KVL.out.1)
        rw [e] at this
        simpa using this
      | true =>
        obtain rfl := hc1 rfl
        have S1 : Str (⟨#[49]⟩ ++ s') ([49] ++ ds) := Str.append rfl hs'
        have e : dv ([49] ++ ds) = dv ds + 10 ^ k := by rw [List.singleton_append, dv_cons, r2]; simp; omega
        have := read_any (⟨#[49]⟩ ++ s') ([49] ++ ds) W S1 (by simp; omega) (DG 49 (by omega) (by omega)) (by simp) (by rw [e]; simpa using KVL.out.1)
        rw [e] at this
        simpa using this
    obtain ⟨R, HRV⟩ : ∃ R, ShutR (dv (xs.drop k) = R) := ⟨_, ⟨rfl⟩⟩
    rw [HRV.out] at NI
    obtain ⟨KV, HKV⟩ : ∃ KV, ShutR (dv ds + (if c then 10 ^ k else 0) = KV) := ⟨_, ⟨rfl⟩⟩
    obtain ⟨A, HAV⟩ : ∃ A, ShutR (dv xs = A) := ⟨_, ⟨rfl⟩⟩
    obtain ⟨M, HMV⟩ : ∃ M, ShutR ((10 : Int) ^ m = M) := ⟨_, ⟨rfl⟩⟩
    rw [HKV.out] at NI KVL RK
    rw [HAV.out] at NI XL RE
    rw [HMV.out] at NI XL KVL
    have HMX : ShutR ((10 : Int) ^ m = M) := HMV
    have PT := hid (fun W => pow10_gives (m : Int) m W rfl (by omega))
    have hmn : (n : Int) - (k : Int) = (m : Int) := by omega
    have ek := hkk.out
    subst ek
    have hz48 : (⟨#[48]⟩ : ByteArray).size = 1 := rfl
    have hkn' : (k : Int) ≤ 4000 := by omega
    have hmm : (m : Int) ≤ 4000 := by omega
    clear rt hs' DG S0 r1 r2 r3 r4 RD d3 hkn hm4 hkm HRV HKV HAV HMV HK HM hkk hk2 HK1 HNE HD HLL hge
    go_wp2_with fail
    refine RW2.out.mono ?_
    rintro e w3 ⟨rfl, rfl⟩
    go_upto_if 87 with fail
    go_cut [11] from 87 to 87 (fun h wx => ∃ hb : ByteArray, h = .string hb ∧ Hid ((c = false → hb = ⟨#[48]⟩) ∧ (c = true → hb = ⟨#[49]⟩)) ∧ hb.size = 1 ∧ wx = w3)
    case first =>
      cases c with
      | false =>
        go_wp2_with fail
        go_meet
        exact ⟨⟨#[48]⟩, rfl, ⟨fun _ => rfl, fun h => (by cases h)⟩, rfl, rfl⟩
      | true =>
        go_wp2_with fail
        go_meet
        exact ⟨⟨#[49]⟩, rfl, ⟨fun h => (by cases h), fun _ => rfl⟩, rfl, rfl⟩
    case rest =>
      obtain ⟨hb, rfl, HB, hzb, hwc⟩ := hcut
      have hwc := hwc.symm
      subst hwc
      clear RW2 hz48
      go_wp2_with fail
      refine (PT.out _).mono ?_
      rintro e w4 ⟨G | G, d4⟩
      case inr => exact absurd G.1 (Int.not_le.2 (by rw [HMX.out]; exact XL.out.2))
      obtain ⟨-, r4, os4, rfl, A4⟩ := G
      rw [HMX.out] at A4
      have U4 := hid A4
      have D4 := hid (chain D3.out d4 (Nat.le_refl _))
      clear A4 d4 PT D3
      go_wp2_with fail
      refine (RE.out _).mono ?_
      rintro e w5 ⟨r5, os5, rfl, A5, d5⟩
      have U5 := hid A5
      have V5 := hid (U4.out.below d5 (Nat.le_refl _))
      have D5 := hid (chain D4.out d5 (Nat.le_refl _))
      clear A5 d5 RE U4 D4
      go_wp2_with fail
      refine (RK.out _ hb HB.out.1 HB.out.2).mono ?_
      rintro e w6 ⟨r6, os6, rfl, A6, d6⟩
      have U6 := hid A6
      have V6 := hid (V5.out.below d6 (Nat.le_refl _))
      have W6 := hid (U5.out.below d6 (Nat.le_refl _))
      have D6 := hid (chain D5.out d6 (Nat.le_refl _))
      have MU := hid (mul_ok r6 r4 _ _ _ _ os6 os4 w6 (A6.argT KVL.out.1) (V6.out.argT XL.out.2) (A6.tsT KVL.out.1) (V6.out.tsT XL.out.2) (by rw [A6.2.2.2.1, V6.out.2.2.2.1]; exact KVL.out.2))
      rw [U6.out.2.2.2.1, V6.out.2.2.2.1] at MU
      clear A6 d6 RK V5 U5 D5 HB
      go_wp2_with fail
      refine MU.out.mono ?_
      rintro e w7 ⟨r7, os7, rfl, A7, d7⟩
      have U7 := hid A7
      have K7 := hid (U6.out.below d7 (Nat.le_refl _))
      have N7 := hid (V6.out.below d7 (Nat.le_refl _))
      have E7 := hid (W6.out.below d7 (Nat.le_refl _))
      have D7 := hid (chain D6.out d7 (Nat.le_refl _))
      obtain ⟨sd, SDH⟩ : ∃ sd, Hid (cmpI (KV * M) A = sd) := ⟨_, rfl⟩
      have CM := hid (cmp_is sd r7 r5 _ _ _ _ os7 os5 w7 (A7.argT KVL.out.2) (E7.out.argT XL.out.1) (by rw [A7.2.2.2.1, E7.out.2.2.2.1]; exact SDH.out))
      clear A7 d7 MU U6 V6 W6 D6
      go_wp2_with fail
      refine CM.out.mono ?_
      rintro e w8 ⟨rfl, d8⟩
      have U8 := hid (U7.out.below d8 (Nat.le_refl _))
      have K8 := hid (K7.out.below d8 (Nat.le_refl _))
      have N8 := hid (N7.out.below d8 (Nat.le_refl _))
      have E8 := hid (E7.out.below d8 (Nat.le_refl _))
      have D8 := hid (chain D7.out d8 (Nat.le_refl _))
      clear d8 CM U7 K7 N7 E7 D7
      cases u with
      | false =>
        obtain ⟨n1, n2, n3, n4⟩ := NI.out.down
        have hsd : sd ≤ 0 := by
          rw [← SDH.out, n1]
          rcases (show A - R = A ∨ A - R < A by omega) with h | h
          · rw [cmpI_eq h]; omega
          · rw [cmpI_lt h]; omega
        have SB := hid (sub_ok r5 r7 _ _ _ _ os5 os7 w8 (E8.out.argT XL.out.1) (U8.out.argT KVL.out.2) (E8.out.tsT XL.out.1) (by rw [E8.out.2.2.2.1, U8.out.2.2.2.1, n1]; omega))
        rw [E8.out.2.2.2.1, U8.out.2.2.2.1, n1, show A - (A - R) = R by omega] at SB
        have NN := hid (And.intro n2 (And.intro n3 n4))
        clear n1 n2 n3 n4
        go_wp2_with fail
        refine SB.out.mono ?_
        rintro e w9 ⟨r9, os9, rfl, A9, d9⟩
        have K9 := hid (K8.out.below d9 (Nat.le_refl _))
        have N9 := hid (N8.out.below d9 (Nat.le_refl _))
        have D9 := hid (chain D8.out d9 (Nat.le_refl _))
        have RP : ShutR (2 * R < Nm.pw 4096) := ⟨by have := NN.out.1; have := XL.out.2; omega⟩
        have SH := hid (shl1_any r9 _ _ os9 w9 (A9.argT (by have := RP.out; have := NN.out.2.1; omega)) (by rw [A9.2.2.2.1]; exact RP.out))
        rw [A9.2.2.2.1] at SH
        clear A9 d9 SB U8 K8 N8 E8 D8
        go_wp2_with fail
        refine SH.out.mono ?_
        rintro e w10 ⟨r10, os10, rfl, A10, d10⟩
        have K10 := hid (K9.out.below d10 (Nat.le_refl _))
        have N10 := hid (N9.out.below d10 (Nat.le_refl _))
        have D10 := hid (chain D9.out d10 (Nat.le_refl _))
        obtain ⟨hf, HF⟩ : ∃ hf, Hid (cmpI (2 * R) M = hf) := ⟨_, rfl⟩
        have C2 := hid (cmp_is hf r10 r4 _ _ _ _ os10 os4 w10 (A10.argT RP.out) (N10.out.argT XL.out.2) (by rw [A10.2.2.2.1, N10.out.2.2.2.1]; exact HF.out))
        clear A10 d10 SH K9 N9 D9
        go_wp2_with fail
        refine C2.out.mono ?_
        rintro e w11 ⟨rfl, d11⟩
        have K11 := hid (K10.out.below d11 (Nat.le_refl _))
        have D11 := hid (chain D10.out d11 (Nat.le_refl _))
        clear d11 C2 K10 N10 D10
        by_cases hlt2 : 2 * R < M
        · have e : hf = -1 := by rw [← HF.out]; exact cmpI_lt hlt2
          subst e
          clear hlt2
          cases more with
          | true =>
            go_wp2_with fail
            go_ret
            exact ⟨rfl, D11.out⟩
          | false =>
            go_wp2_with fail
            go_ret
            exact ⟨rfl, D11.out⟩
        · have heq : 2 * R = M := by have := NN.out.1; omega
          have e : hf = 0 := by rw [← HF.out]; exact cmpI_eq heq
          subst e
          obtain ⟨hm, hev⟩ := NN.out.2.2 heq
          subst hm
          have BT := hid (bit0_is K11.out KVL.out.1 hev)
          clear hlt2 heq hev
          go_wp2_with fail
          refine BT.out.mono ?_
          rintro e w12 ⟨rfl, rfl⟩
          clear BT
          go_wp2_with fail
          go_ret
          exact ⟨rfl, D11.out⟩
      | true =>
        obtain ⟨n1, n2, n3, n4⟩ := NI.out.upw
        have hsd : sd = 1 := by
          rw [← SDH.out]
          exact cmpI_gt (by omega)
        subst hsd
        have SB := hid (sub_below r5 r7 _ _ _ _ os5 os7 w8 (E8.out.argT XL.out.1) (U8.out.argT KVL.out.2) (E8.out.tsT XL.out.1) (U8.out.tsT KVL.out.2) (by rw [E8.out.2.2.2.1, U8.out.2.2.2.1]; omega))
        have NN := hid (And.intro n1 (And.intro n2 (And.intro n3 n4)))
        clear n1 n2 n3 n4
        go_wp2_with fail
        refine SB.out.mono ?_
        rintro e w9 ⟨rfl, d9⟩
        have U9 := hid (U8.out.below d9 (Nat.le_refl _))
        have E9 := hid (E8.out.below d9 (Nat.le_refl _))
        have K9 := hid (K8.out.below d9 (Nat.le_refl _))
        have N9 := hid (N8.out.below d9 (Nat.le_refl _))
        have D9 := hid (chain D8.out d9 (Nat.le_refl _))
        have SC := hid (sub_ok r7 r5 _ _ _ _ os7 os5 w9 (U9.out.argT KVL.out.2) (E9.out.argT XL.out.1) (U9.out.tsT KVL.out.2) (by rw [E9.out.2.2.2.1, U9.out.2.2.2.1]; have := NN.out.1; have := NN.out.2.2.1; omega))
        rw [E9.out.2.2.2.1, U9.out.2.2.2.1, NN.out.1] at SC
        clear d9 SB U8 K8 N8 E8 D8
        go_wp2_with fail
        refine SC.out.mono ?_
        rintro e w10 ⟨r10, os10, rfl, A10, d10⟩
        have K10 := hid (K9.out.below d10 (Nat.le_refl _))
        have N10 := hid (N9.out.below d10 (Nat.le_refl _))
        have D10 := hid (chain D9.out d10 (Nat.le_refl _))
        have RP : ShutR (2 * (M - R) < Nm.pw 4096) := ⟨by have := NN.out.2.1; have := XL.out.2; omega⟩
        have SH := hid (shl1_any r10 _ _ os10 w10 (A10.argT (by have := RP.out; have := NN.out.2.2.1; omega)) (by rw [A10.2.2.2.1]; exact RP.out))
        rw [A10.2.2.2.1] at SH
        clear A10 d10 SC U9 E9 K9 N9 D9
        go_wp2_with fail
        refine SH.out.mono ?_
        rintro e w11 ⟨r11, os11, rfl, A11, d11⟩
        have K11 := hid (K10.out.below d11 (Nat.le_refl _))
        have N11 := hid (N10.out.below d11 (Nat.le_refl _))
        have D11 := hid (chain D10.out d11 (Nat.le_refl _))
        obtain ⟨hf, HF⟩ : ∃ hf, Hid (cmpI (2 * (M - R)) M = hf) := ⟨_, rfl⟩
        have C2 := hid (cmp_is hf r11 r4 _ _ _ _ os11 os4 w11 (A11.argT RP.out) (N11.out.argT XL.out.2) (by rw [A11.2.2.2.1, N11.out.2.2.2.1]; exact HF.out))
        clear A11 d11 SH K10 N10 D10
        go_wp2_with fail
        refine C2.out.mono ?_
        rintro e w12 ⟨rfl, d12⟩
        have K12 := hid (K11.out.below d12 (Nat.le_refl _))
        have D12 := hid (chain D11.out d12 (Nat.le_refl _))
        clear d12 C2 K11 N11 D11
        by_cases hlt2 : 2 * (M - R) < M
        · have e : hf = -1 := by rw [← HF.out]; exact cmpI_lt hlt2
          subst e
          clear hlt2
          cases more with
          | true =>
            go_wp2_with fail
            go_ret
            exact ⟨rfl, D12.out⟩
          | false =>
            go_wp2_with fail
            go_ret
            exact ⟨rfl, D12.out⟩
        · have heq : 2 * R = M := by have := NN.out.2.1; omega
          have e : hf = 0 := by rw [← HF.out]; exact cmpI_eq (by omega)
          subst e
          have cs := NN.out.2.2.2 heq
          clear hlt2 heq
          cases more with
          | true =>
            clear cs
            go_wp2_with fail
            go_ret
            exact ⟨rfl, D12.out⟩
          | false =>
            have hev : KV % 2 = 0 := by
              rcases cs with c | c
              · cases c
              · exact c
            have BT := hid (bit0_is K12.out KVL.out.1 hev)
            clear cs hev
            go_wp2_with fail
            refine BT.out.mono ?_
            rintro e w13 ⟨rfl, rfl⟩
            clear BT
            go_wp2_with fail
            go_ret
            exact ⟨rfl, D12.out⟩
end Go.Proofs.YtdolimhddmddnaaDoor
