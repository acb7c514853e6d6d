/-
  Texts put together: PCmp, KTen, PNear, PRoad, PTravel, PConv, VDl, VMade.
-/
import Derived.Test.YthefpclblejbgaaGreatDoorRF
import Derived.Test.YthefpclblejbgaaGreatDoorRC
import Derived.Test.YthefpclblejbgaaGreatDoorWalk4
import Derived.Deep.RegionHeld3
import Derived.Test.YthefpclblejbgaaGreatDoorVOrd
import Derived.Lib.ItoaNum
namespace Go.Proofs.YthefpclblejbgaaGreatDoor
open Go Go.RowKit Go.Deep

theorem dw_cons (x : Int) (l : List Int) : dw (x :: l) = (x - 48) * 10 ^ l.length + dw l := by
  have h := dv_cons x l
  rw [dw_dv, dw_dv] at h
  exact h

theorem lex_le : ∀ (xs ys : List Int) (M : Nat), Dig9 xs → Dig9 ys → xs.length ≤ M → ys.length ≤ M → Sc.lex xs ys ≤ 0 → dw xs * 10 ^ (M - xs.length) ≤ dw ys * 10 ^ (M - ys.length)
  | [], ys, M, _, hy, _, _, _ => by
    have := (dw_range hy).1
    have h := Int.mul_nonneg this (Int.le_of_lt (Ie.ten_pos (M - ys.length)))
    simp only [dw, List.foldl_nil, Int.zero_mul]
    exact h
  | x :: a, [], M, _, _, _, _, h => by simp [Sc.lex] at h
  | x :: a, y :: b, 0, _, _, h, _, _ => by simp at h
  | x :: a, y :: b, M + 1, hx, hy, lx, ly, h => by
    have hxa : Dig9 a := fun z hz => hx z (by simp [hz])
    have hyb : Dig9 b := fun z hz => hy z (by simp [hz])
    rw [List.length_cons] at lx ly
    have ea : ∀ (z : Int) (l : List Int), l.length ≤ M → dw (z :: l) * 10 ^ (M + 1 - (z :: l).length) = (z - 48) * 10 ^ M + dw l * 10 ^ (M - l.length) := by
      intro z l hl
      rw [dw_cons, List.length_cons, show M + 1 - (l.length + 1) = M - l.length by omega, Int.add_mul, Int.mul_assoc, ← Int.pow_add, show l.length + (M - l.length) = M by omega]
    rw [ea x a (by omega), ea y b (by omega)]
    simp only [Sc.lex] at h
    rcases Int.lt_trichotomy x y with c | c | c
    · have b1 : dw a * 10 ^ (M - a.length) < 10 ^ a.length * 10 ^ (M - a.length) := Int.mul_lt_mul_of_pos_right (dw_range hxa).2 (Ie.ten_pos _)
      rw [← Int.pow_add, show a.length + (M - a.length) = M by omega] at b1
      have b2 : 0 ≤ dw b * 10 ^ (M - b.length) := Int.mul_nonneg (dw_range hyb).1 (Int.le_of_lt (Ie.ten_pos _))
      have b3 : (x - 48 + 1) * 10 ^ M ≤ (y - 48) * 10 ^ M := Int.mul_le_mul_of_nonneg_right (by omega) (Int.le_of_lt (Ie.ten_pos _))
      rw [Int.add_mul, Int.one_mul] at b3
      omega
    · subst c
      rw [if_neg (by omega), if_neg (by omega)] at h
      have := lex_le a b M hxa hyb (by omega) (by omega) h
      omega
    · rw [if_neg (by omega), if_pos c] at h
      omega

/-- a's number is at most b's. -/
def Vle (a b : Sc.D) : Prop := dw a.ds * 10 ^ a.e.toNat * 10 ^ (-b.e).toNat ≤ dw b.ds * 10 ^ b.e.toNat * 10 ^ (-a.e).toNat

theorem mc_le {a b : Sc.D} (ha : Dig9 a.ds) (hb : Dig9 b.ds) (hn : b.ds ≠ []) (h0 : b.ds.getD 0 0 ≠ 48) (h : Sc.mc a b ≤ 0) : Vle a b := by
  unfold Vle
  have l0 : 0 < b.ds.length := List.length_pos_iff.2 hn
  rw [Int.mul_assoc, Int.mul_assoc, ← Int.pow_add, ← Int.pow_add]
  unfold Sc.mc at h
  split at h
  · rename_i hp
    have hl : Sc.pl a < Sc.pl b := by rcases Sc.cmpI_c (Sc.pl a) (Sc.pl b) with k | k | k <;> omega
    unfold Sc.pl at hl
    have h1 : dw a.ds * 10 ^ (a.e.toNat + (-b.e).toNat) ≤ 10 ^ a.ds.length * 10 ^ (a.e.toNat + (-b.e).toNat) := Int.mul_le_mul_of_nonneg_right (Int.le_of_lt (dw_range ha).2) (Int.le_of_lt (Ie.ten_pos _))
    have h2 : 10 ^ (b.ds.length - 1) * 10 ^ (b.e.toNat + (-a.e).toNat) ≤ dw b.ds * 10 ^ (b.e.toNat + (-a.e).toNat) := Int.mul_le_mul_of_nonneg_right (dw_low hb hn h0) (Int.le_of_lt (Ie.ten_pos _))
    rw [← Int.pow_add] at h1 h2
    exact Int.le_trans h1 (Int.le_trans (Ie.ten_le (by omega)) h2)
  · rename_i hp
    have hl : Sc.pl a = Sc.pl b := by omega
    unfold Sc.pl at hl
    obtain ⟨M, hM⟩ : ∃ M, M = max a.ds.length b.ds.length := ⟨_, rfl⟩
    have := lex_le a.ds b.ds M ha hb (by omega) (by omega) h
    obtain ⟨s, hs⟩ : ∃ s, a.e.toNat + (-b.e).toNat = M - a.ds.length + s := ⟨a.e.toNat + (-b.e).toNat - (M - a.ds.length), by omega⟩
    have hs2 : b.e.toNat + (-a.e).toNat = M - b.ds.length + s := by omega
    rw [hs, hs2, Int.pow_add, Int.pow_add, ← Int.mul_assoc, ← Int.mul_assoc]
    exact Int.mul_le_mul_of_nonneg_right this (Int.le_of_lt (Ie.ten_pos _))

/-- A double with its sign, as a number. -/
def sv (neg : Bool) (x : Int) : Int := if neg = true then -x else x

theorem dr48 {x : Int} (h : Dr [48] 0 x) : x = 0 := by
  have h2 : Ie.Rnd 0 1 0 false x := by simpa [Dr, dw] using h
  exact Ie.Rnd.one (a := 0) (a' := 0) (by decide) (by decide) h2 (Ie.rnd_zero 1 0 false (by decide)) (by omega) rfl

theorem Nml.dig {xs : List Int} {e : Int} (h : Nml xs e) : Dig9 xs := isdec_dig h.1
theorem Nml.ne {xs : List Int} {e : Int} (h : Nml xs e) : xs ≠ [] := h.1.1
theorem Nml.form {xs : List Int} {e : Int} (h : Nml xs e) : (xs = [48] ∧ e = 0) ∨ (xs ≠ [48] ∧ xs.getD 0 0 ≠ 48 ∧ xs.getD (xs.length - 1) 0 ≠ 48) := ((nml_iff xs e).1 h).2.2.2.2

theorem Nml.zero {xs : List Int} {e x : Int} (h : Nml xs e) (h4 : xs = [48]) (hx : Dr xs e x) : x = 0 := by
  rcases h.form with ⟨_, g⟩ | ⟨g, _⟩
  · subst h4 g; exact dr48 hx
  · exact absurd h4 g

theorem cmp_sv {a b : Sc.D} {x y : Int} (ha : Nml a.ds a.e) (hb : Nml b.ds b.e) (hx : Dr a.ds a.e x) (hy : Dr b.ds b.e y) (h : Sc.cmpD a b ≤ 0) : sv a.neg x ≤ sv b.neg y := by
  have xb := hx.bd
  have yb := hy.bd
  unfold Sc.cmpD at h
  unfold sv
  rcases Sc.sgn_c a with ⟨a1, a2⟩ | ⟨a1, a2, a3⟩ | ⟨a1, a2, a3⟩ <;> rcases Sc.sgn_c b with ⟨b1, b2⟩ | ⟨b1, b2, b3⟩ | ⟨b1, b2, b3⟩
  · have := ha.zero a1 hx; have := hb.zero b1 hy; subst x y; split <;> split <;> omega
  · rw [a2, b3, if_pos (by decide)] at h; exact absurd h (by decide)
  · have := ha.zero a1 hx; subst x; rw [b2]; split <;> simp <;> omega
  · have := hb.zero b1 hy; subst y; rw [a2, if_pos rfl]; split <;> omega
  · rw [a3, b3, if_neg (by decide), a2, if_pos rfl] at h
    have g := hb.form
    have k := ha.form
    have v := mc_le hb.dig ha.dig ha.ne (by rcases k with ⟨k, _⟩ | k; · exact absurd k a1
                                            · exact k.2.1) h
    have := hy.mono hx v
    rw [a2, b2, if_pos rfl, if_pos rfl]
    omega
  · rw [a2, b2]; simp; omega
  · rw [a3, b2, if_pos (by decide)] at h; exact absurd h (by decide)
  · rw [a3, b3, if_pos (by decide)] at h; exact absurd h (by decide)
  · rw [a3, b3, if_neg (by decide), a2, if_neg (by decide)] at h
    have k := hb.form
    have v := mc_le ha.dig hb.dig hb.ne (by rcases k with ⟨k, _⟩ | k; · exact absurd k b1
                                            · exact k.2.1) h
    have := hx.mono hy v
    rw [a2, b2]
    simp
    omega

theorem nml_nrm {xs : List Int} {e : Int} (neg : Bool) (h : Sc.IsDec xs e) : Nml (Sc.nrm neg xs e).ds (Sc.nrm neg xs e).e := by
  rw [nml_iff]
  obtain ⟨h1, h2, h3, h4, h5⟩ := h
  by_cases hz : Sc.lz xs = xs.length
  · rw [Sc.nrm_zero hz]
    refine ⟨by simp, by simp, by simp, ?_, .inl ⟨rfl, rfl⟩⟩
    intro i hi
    simp at hi
    subst hi
    simp
  · rw [Sc.nrm_pos hz]
    have lt := Sc.lz_tz hz
    have e5 := h5 hz
    simp only
    have len : ((xs.drop (Sc.lz xs)).take (xs.length - Sc.tz xs - Sc.lz xs)).length = xs.length - Sc.tz xs - Sc.lz xs := by rw [List.length_take, List.length_drop]; omega
    have at_ : ∀ i, i < xs.length - Sc.tz xs - Sc.lz xs → ((xs.drop (Sc.lz xs)).take (xs.length - Sc.tz xs - Sc.lz xs)).getD i 0 = Sc.pk xs (Sc.lz xs + i) := by
      intro i hi
      have := Sc.pk_take (xs.drop (Sc.lz xs)) (xs.length - Sc.tz xs - Sc.lz xs) i
      rw [if_pos hi, Sc.pk_drop] at this
      exact this
    have hd : ((xs.drop (Sc.lz xs)).take (xs.length - Sc.tz xs - Sc.lz xs)).getD 0 0 ≠ 48 := by
      rw [at_ 0 (by omega), Nat.add_zero]; exact Sc.lz_end xs
    refine ⟨?_, by omega, by omega, ?_, .inr ⟨?_, hd, ?_⟩⟩
    · intro c; rw [c] at len; simp at len; omega
    · intro i hi
      rw [len] at hi
      rw [at_ i hi]
      have hi2 : Sc.lz xs + i < xs.length := by omega
      have := h4 (xs[Sc.lz xs + i]) (List.getElem_mem hi2)
      have e : Sc.pk xs (Sc.lz xs + i) = xs[Sc.lz xs + i] := by simp [Sc.pk, List.getD, hi2]
      rw [e]
      exact Sc.dg_iff.1 this
    · intro c; rw [c] at hd; exact hd rfl
    · rw [len, at_ _ (by omega), show Sc.lz xs + (xs.length - Sc.tz xs - Sc.lz xs - 1) = xs.length - Sc.tz xs - 1 by omega]
      exact Sc.tz_end (by omega)

/-- There is always a nearest double. -/
theorem near_ex (P Q : Int) : ∃ x, Ie.Near P Q false x := by
  have step : ∀ k : Nat, (∃ x, Ie.Near P Q false x) ∨ ((k : Int) ≤ 9218868437227405312 → 0 < (k : Int) → Ie.md (k - 1) * Q < P ∨ (Ie.md (k - 1) * Q = P ∧ (k : Int) % 2 = 0)) := by
    intro k
    induction k with
    | zero => exact .inr (fun _ h => absurd h (by simp))
    | succ k ih =>
      rcases ih with ih | ih
      · exact .inl ih
      · rcases (show (k : Int) < 9218868437227405312 ∨ 9218868437227405312 ≤ (k : Int) by omega) with hk | hk
        · by_cases hu : P < Ie.md k * Q ∨ (P = Ie.md k * Q ∧ (k : Int) % 2 = 0)
          · left
            refine ⟨k, ⟨by omega, by omega⟩, fun h => ?_, fun _ => ?_⟩
            · rcases ih (by omega) h with g | ⟨g, g'⟩
              · exact .inl g
              · exact .inr ⟨g, .inl g'⟩
            · rcases hu with g | ⟨g, g'⟩
              · exact .inl g
              · exact .inr ⟨g, g', rfl⟩
          · right
            intro _ _
            rw [show ((k + 1 : Nat) : Int) - 1 = k by omega]
            rcases Int.lt_trichotomy (Ie.md k * Q) P with g | g | g
            · exact .inl g
            · refine .inr ⟨g, ?_⟩
              have : ¬ (k : Int) % 2 = 0 := fun c => hu (.inr ⟨g.symm, c⟩)
              omega
            · exact absurd (.inl g) hu
        · right
          intro h; omega
  rcases step 9218868437227405312 with h | h
  · exact h
  · refine ⟨9218868437227405312, ⟨by decide, by decide⟩, fun _ => ?_, fun h => absurd h (by decide)⟩
    rcases h (by decide) (by decide) with g | ⟨g, g'⟩
    · exact .inl g
    · exact .inr ⟨g, .inl g'⟩

theorem dr_ex (xs : List Int) (e : Int) : ∃ y, Dr xs e y := by
  obtain ⟨x, h⟩ := near_ex (dw xs * 10 ^ e.toNat * 2 ^ 1075) (10 ^ (-e).toNat * 2 ^ 0)
  exact ⟨x, Ie.Rnd.of (a := 1075) (b := 0) (by decide) h⟩
end Go.Proofs.YthefpclblejbgaaGreatDoor

namespace Go.Proofs.YthefpclblejbgaaGreatDoor
open Go Go.RowKit Go.Deep

theorem ten_pw {j : Nat} (h : j ≤ 20000) : (10 : Int) ^ j < Nm.pw 4096 := by
  have h1 := Nat.pow_le_pow_left (show 10 ≤ 2 ^ 4 by decide) j
  rw [← Nat.pow_mul] at h1
  have e1 : ((10 ^ j : Nat) : Int) = 10 ^ j := by simp
  have e2 : ((2 ^ (4 * j) : Nat) : Int) = 2 ^ (4 * j) := by simp
  have h3 := two_pw (u := 4 * j) (by omega)
  omega

end Go.Proofs.YthefpclblejbgaaGreatDoor

namespace Go.Proofs.YthefpclblejbgaaGreatDoor
open Go Go.RowKit Go.Deep

/-- What cut keeps. -/
def CutIs (xs : List Int) (e : Int) (ys : List Int) (f : Int) : Prop := (xs.length ≤ 768 ∧ ys = xs ∧ f = e) ∨ (768 < xs.length ∧ ys = xs.take 768 ++ [49] ∧ f = e + xs.length - (768 : Nat) - 1)

theorem Str.cat {s t : ByteArray} {xs ys : List Int} (h : Str s xs) (k : Str t ys) : Str (s ++ t) (xs ++ ys) := by
  unfold Str at *
  rw [ByteArray.data_append, Array.toList_append, List.map_append, h, k]

set_option maxRecDepth 100000 in
set_option maxHeartbeats 1000000 in
theorem cut_any10 (s : ByteArray) (xs : List Int) (e : Int) (w : World) (hs : Str s xs) (hn : xs.length ≤ 281474976710656) (e0 : -1152921504606846976 ≤ e) (e1 : e ≤ 1152921504606846976) :
    Calls Tryz.prog 176 #[.string s, .int .i64 e] w fun r w' => (∃ t ys f, r = .returned (.tuple #[.string t, .int .i64 f]) ∧ Str t ys ∧ CutIs xs e ys f) ∧ w' = w := by
  have hsz := hs.size
  by_cases h : xs.length ≤ 768
  · have F : Hid (∃ t ys f, Ending.returned (.tuple #[.string s, .int .i64 e]) = .returned (.tuple #[.string t, .int .i64 f]) ∧ Str t ys ∧ CutIs xs e ys f) := ⟨s, xs, e, rfl, hs, .inl ⟨h, rfl, rfl⟩⟩
    have hi : (xs.length : Int) ≤ 768 := by omega
    clear hs hn h
    go_enter Tryz.func176, Tryz.ntmps176
    go_wp2_with fail
    go_ret2
    exact ⟨F.out, rfl⟩
  · have EX := hs.extract 0 768
    simp only [List.drop_zero, Nat.sub_zero] at EX
    have F : Hid (∃ t ys f, Ending.returned (.tuple #[.string (s.extract 0 768 ++ ⟨#[49]⟩), .int .i64 (e + xs.length - (768 : Nat) - 1)]) = .returned (.tuple #[.string t, .int .i64 f]) ∧ Str t ys ∧ CutIs xs e ys f) := ⟨_, _, _, rfl, EX.cat (ys := [49]) rfl, .inr ⟨by omega, rfl, rfl⟩⟩
    have hx : (s.extract 0 768).size = 768 := by rw [EX.size, List.length_take]; omega
    have hi : ¬ (xs.length : Int) ≤ 768 := by omega
    have hb : (xs.length : Int) ≤ 281474976710656 := by omega
    have hs1 : 768 ≤ s.size := by omega
    obtain ⟨q, hq⟩ : ∃ q, e + ((xs.length : Int) - 768 - 1) = q := ⟨_, rfl⟩
    have hq2 : e + (xs.length : Int) - (768 : Nat) - 1 = q := by omega
    rw [hq2] at F
    clear hs hn h EX hq2
    go_enter Tryz.func176, Tryz.ntmps176
    go_wp2_with fail
    go_ret2
    exact ⟨F.out, rfl⟩

theorem five_pw10 {j : Nat} (h : j ≤ 4000) : (5 : Int) ^ j < Nm.pw 4095 := by
  have h1 := Nat.pow_le_pow_left (show 5 ≤ 2 ^ 3 by decide) j
  rw [← Nat.pow_mul] at h1
  have e1 : ((5 ^ j : Nat) : Int) = 5 ^ j := by simp
  have e2 : ((2 ^ (3 * j) : Nat) : Int) = 2 ^ (3 * j) := by simp
  have h3 := Nm.two_mono (show 3 * j + 1 ≤ 64 * 4095 by omega)
  rw [Int.pow_succ] at h3
  rw [Nm.pw_two]
  have := Nm.two_pos (3 * j)
  generalize (2 : Int) ^ (64 * 4095) = y at *
  omega
theorem pw_up : Nm.pw 4095 ≤ Nm.pw 4096 := by
  rw [Nm.pw_two, Nm.pw_two]
  exact Nm.two_mono (by decide)

theorem pow5_ok (k : Int) (n : Nat) (w : World) (hk : k = (n : Int)) (hn : n ≤ 4000) :
    Calls Tryz.prog 99 #[.int .i64 k] w fun e w' => ∃ r os, e = .returned (.tuple #[.slice r (List.length os) (List.length os), .int .i64 0]) ∧ Ans w.heap.size w' r os (5 ^ n) ∧ Below w.heap.size w w' := by
  refine (pow5_gives k n w hk (by omega)).mono ?_
  rintro e w' ⟨⟨_, r, os, rfl, A⟩ | ⟨h, _⟩, hB⟩
  · exact ⟨r, os, rfl, A, hB⟩
  · exact absurd (Int.lt_of_lt_of_le (five_pw10 hn) pw_up) (Int.not_lt.2 h)

theorem CutIs.bd {xs ys : List Int} {e f : Int} (h : CutIs xs e ys f) (hm : Nml xs e) (p0 : -400 < e + xs.length - 1) (p1 : e + xs.length - 1 < 400) :
    Dig9 ys ∧ ys ≠ [] ∧ ys.length ≤ 769 ∧ -1200 ≤ f ∧ f ≤ 400 ∧ ∀ x, Dr ys f x → Dr xs e x := by
  have hd := hm.dig
  have hn := hm.ne
  have l0 : 0 < xs.length := List.length_pos_iff.2 hn
  rcases h with ⟨h, rfl, rfl⟩ | ⟨h, rfl, rfl⟩
  · exact ⟨hd, hn, by omega, by omega, by omega, fun _ => id⟩
  · refine ⟨(hd.take 768).append dig1, by simp, by rw [List.length_append, List.length_take]; simp; omega, by omega, by omega, fun x hx => ?_⟩
    rcases hm.form with ⟨g, _⟩ | ⟨_, g1, g2⟩
    · rw [g] at h; simp at h
    · exact dr_cut 768 (Nat.le_refl _) hd h g1 g2 hx

set_option maxRecDepth 100000 in
set_option maxHeartbeats 2000000 in
theorem near_any10 (s : ByteArray) (xs : List Int) (e y : Int) (w : World) (hT : Tab w) (hs : Str s xs) (hn : xs.length ≤ 281474976710655) (hm : Nml xs e) (hy : Dr xs e y) :
    Calls Tryz.prog 175 #[.string s, .int .i64 e] w fun r w' => r = .returned (.int .u64 y) ∧ Below w.heap.size w w' := by
  have hsz := hs.size
  have hb : (xs.length : Int) ≤ 281474976710655 := by omega
  have hd := hm.dig
  have hne := hm.ne
  have e0 := hm.1.2.1
  have e1 := hm.1.2.2.1
  by_cases h4 : 400 ≤ e + xs.length - 1
  · have hy0 : y = 9218868437227405312 := by
      rcases hm.form with ⟨g, g0⟩ | ⟨_, g1, _⟩
      · rw [g, g0] at h4; simp at h4
      · exact hy.one (dr_inf hd hne g1 h4)
    subst hy0
    clear hs hn hm hy hd hne hT
    go_enter Tryz.func175, Tryz.ntmps175
    go_wp2_with fail
    go_ret
    exact ⟨rfl, Below.refl _ _⟩
  · by_cases h5 : e + xs.length - 1 ≤ -400
    · have hy0 : y = 0 := hy.one (dr_zero hd hne h5)
      subst hy0
      clear hs hn hm hy hd hne hT
      go_enter Tryz.func175, Tryz.ntmps175
      go_wp2_with fail
      go_ret
      exact ⟨rfl, Below.refl _ _⟩
    · have CT := hid (fun wx => cut_any10 s xs e wx hs (by omega) e0 e1)
      have CB := hid (fun ys f (h : CutIs xs e ys f) => h.bd hm (by omega) (by omega))
      have HY := hid (fun x (h : Dr xs e x) => h.one hy)
      have HT := hid hT
      clear hs hn hm hy hd hne hT
      go_enter Tryz.func175, Tryz.ntmps175
      go_wp2_with fail
      with_reducible refine (CT.out _).mono ?_
      rintro r w1 ⟨⟨t, ys, f, rfl, ht, hc⟩, rfl⟩
      obtain ⟨yd, yn, yl, f0, f1, yc⟩ := CB.out ys f hc
      have rg := dw_range yd
      have big : dw ys < Nm.pw 4096 := by have := ten_pw (show ys.length ≤ 20000 by omega); omega
      have RD := hid (fun wx => read_any t ys wx ht (by omega) yd yn (by rw [dw_dv]; exact big))
      rw [dw_dv] at RD
      have FY : Hid (∀ x, Dr ys f x → x = y) := fun x hx => HY.out x (yc x hx)
      have HW : Hid (dw ys < 10 ^ ys.length ∧ 0 ≤ dw ys ∧ ys.length ≤ 769 ∧ dw ys < Nm.pw 4096) := ⟨rg.2, rg.1, yl, big⟩
      clear CT CB HY hc yd yn yl yc rg ht big h4 h5 e0 e1
      by_cases hf : f < 0
      · obtain ⟨j, hj⟩ := Int.eq_ofNat_of_zero_le (show 0 ≤ -f by omega)
        have P := hid (fun wx => pow5_ok (-f) j wx hj (by omega))
        have f5 : (0 : Int) < 5 ^ j := Int.pow_pos (by decide)
        have RR : Hid (∀ p os q ps wx, Tab wx → Ans w1.heap.size wx p os (dw ys) → Ans w1.heap.size wx q ps (5 ^ j) → Calls Tryz.prog 65 #[.bool false, .slice p (List.length os) (List.length os), .slice q (List.length ps) (List.length ps), .int .i64 f] wx fun r w' => r = .returned (.tuple #[.int .u64 y, .int .i64 0]) ∧ Below wx.heap.size wx w') := fun p os q ps wx hT A B => by
          have fp := five_pw10 (show j ≤ 4000 by omega)
          have fq := Int.lt_of_lt_of_le fp pw_up
          refine (roundRatio_any false p q _ _ _ _ os ps wx (A.argT HW.out.2.2.2) (B.argT fq) hT (A.tsT HW.out.2.2.2) ((Nm.tsize_le_iff B.2.1 4095).2 (by rw [B.2.2.2.1]; exact fp)) (dw ys) (5 ^ j) f A.2.2.2.1 B.2.2.2.1 f5).mono ?_
          rintro r w' ⟨x, rfl, R, hB⟩
          obtain rfl := FY.out x (dr_down j (by omega) R)
          exact ⟨rfl, hB⟩
        clear FY hj f5
        go_wp2_with fail
        with_reducible refine (RD.out _).mono ?_
        rintro r w2 ⟨p, os, rfl, A, hB⟩
        have A2 := hid A
        have B2 := hid hB
        clear A hB RD
        go_wp2_with fail
        with_reducible refine (P.out _).mono ?_
        rintro r w3 ⟨q, ps, rfl, A, hB⟩
        have R2 := hid (RR.out p os q ps w3 (HT.out.below (below_on B2.out hB)) (A2.out.below hB (Nat.le_refl _)) (A.upT B2.out.size))
        have B3 := hid (below_on B2.out hB)
        clear A hB RR P A2 B2
        go_wp2_with fail
        with_reducible refine R2.out.mono ?_
        rintro r w4 ⟨rfl, hB⟩
        have B4 := hid (below_on B3.out hB)
        clear hB R2 B3
        go_wp2_with fail
        go_ret
        exact ⟨rfl, B4.out⟩
      · obtain ⟨j, hj⟩ := Int.eq_ofNat_of_zero_le (show 0 ≤ f by omega)
        have P := hid (fun wx => pow5_ok f j wx hj (by omega))
        have f5 : (0 : Int) < 5 ^ j := Int.pow_pos (by decide)
        have lim : Hid (dw ys * 5 ^ j < Nm.pw 4096) := by
          show _ < _
          have g1 : dw ys * 5 ^ j < 10 ^ ys.length * 5 ^ j := Int.mul_lt_mul_of_pos_right HW.out.1 f5
          have g2 : (10 : Int) ^ ys.length * 5 ^ j ≤ 10 ^ ys.length * 10 ^ j := by
            refine Int.mul_le_mul_of_nonneg_left ?_ (Int.le_of_lt (Ie.ten_pos _))
            rw [Ie.ten_five j]
            have := Nm.two_pos j
            have : (5 : Int) ^ j * 1 ≤ 5 ^ j * 2 ^ j := Int.mul_le_mul_of_nonneg_left (by omega) (by omega)
            omega
          rw [← Int.pow_add] at g2
          have := ten_pw (show ys.length + j ≤ 20000 by have := HW.out.2.2.1; omega)
          omega
        have ML : Hid (∀ p os q ps wx, Ans w1.heap.size wx p os (dw ys) → Ans w1.heap.size wx q ps (5 ^ j) → Calls Tryz.prog 126 #[.slice p (List.length os) (List.length os), .slice q (List.length ps) (List.length ps)] wx fun e w' => ∃ r os, e = .returned (.tuple #[.slice r (List.length os) (List.length os), .int .i64 0]) ∧ Ans wx.heap.size w' r os (dw ys * 5 ^ j) ∧ Below wx.heap.size wx w') := fun p os q ps wx A B => by
          have fp := five_pw10 (show j ≤ 4000 by omega)
          have fq := Int.lt_of_lt_of_le fp pw_up
          refine (mul_ok p q _ _ _ _ os ps wx (A.argT HW.out.2.2.2) (B.argT fq) (A.tsT HW.out.2.2.2) (B.tsT fq) (by rw [A.2.2.2.1, B.2.2.2.1]; exact lim.out)).mono ?_
          rw [A.2.2.2.1, B.2.2.2.1]
          exact fun e w' h => h
        have RN : Hid (∀ p os b wx, Tab wx → Ans b wx p os (dw ys * 5 ^ j) → Calls Tryz.prog 92 #[.bool false, .slice p (List.length os) (List.length os), .int .i64 f, .bool false] wx fun r w' => r = .returned (.tuple #[.int .u64 y, .int .i64 0]) ∧ Below wx.heap.size wx w') := fun p os b wx hT A => by
          refine (round_any false p _ _ os wx (A.argT lim.out) hT (A.tsT lim.out) (dw ys * 5 ^ j) f false A.2.2.2.1).mono ?_
          rintro r w' ⟨x, rfl, R, hB⟩
          obtain rfl := FY.out x (dr_up j (by omega) R)
          exact ⟨rfl, hB⟩
        clear FY hj f5 lim HW
        go_wp2_with fail
        with_reducible refine (RD.out _).mono ?_
        rintro r w2 ⟨p, os, rfl, A, hB⟩
        have A2 := hid A
        have B2 := hid hB
        clear A hB RD
        go_wp2_with fail
        with_reducible refine (P.out _).mono ?_
        rintro r w3 ⟨q, ps, rfl, A, hB⟩
        have M2 := hid (ML.out p os q ps w3 (A2.out.below hB (Nat.le_refl _)) (A.upT B2.out.size))
        have B3 := hid (below_on B2.out hB)
        clear A hB ML P A2 B2
        go_wp2_with fail
        with_reducible refine M2.out.mono ?_
        rintro r w4 ⟨p4, os4, rfl, A, hB⟩
        have R2 := hid (RN.out p4 os4 _ w4 (HT.out.below (below_on B3.out hB)) A)
        have B4 := hid (below_on B3.out hB)
        clear A hB M2 B3 RN
        go_wp2_with fail
        with_reducible refine R2.out.mono ?_
        rintro r w5 ⟨rfl, hB⟩
        have B5 := hid (below_on B4.out hB)
        clear hB R2 B4
        go_wp2_with fail
        go_ret
        exact ⟨rfl, B5.out⟩
end Go.Proofs.YthefpclblejbgaaGreatDoor

namespace Go.Proofs.YthefpclblejbgaaGreatDoor
open Go Go.RowKit Go.Deep

/-- What Try tells of a normal Dec. -/
def TryY (neg : Bool) (xs : List Int) (e y : Int) (w : World) (r : Ending) (w' : World) : Prop :=
  ∃ su, (∃ x, TellIs xs e x su) ∧ r = .returned (.tuple #[.int .u64 (if su = true then Ie.sg neg y else 0), .bool su]) ∧ Below w.heap.size w w'

theorem try_y10 (neg : Bool) (s : ByteArray) (xs : List Int) (e y : Int) (w : World) (hT : Tab w) (hX : Tens w) (hs : Str s xs) (hn : xs.length ≤ 281474976710655) (hm : Nml xs e) (hy : Dr xs e y) :
    Calls Tryz.prog 14 #[decV neg s e] w fun r w' => TryY neg xs e y w r w' := by
  refine (try_any9 neg s xs e w hT hX hs (by omega)).mono ?_
  rintro r w' ⟨⟨h, _⟩ | ⟨_, x, su, TI, x0, x1, rfl⟩, hB⟩
  · exact absurd hm h
  · refine ⟨su, ⟨x, TI⟩, ?_, hB⟩
    cases su with
    | true => rw [tell_true hm.dig TI hy]; rfl
    | false => rw [tell_no TI]; rfl

set_option maxRecDepth 100000 in
set_option maxHeartbeats 1000000 in
theorem qdouble_any10 (neg : Bool) (s : ByteArray) (xs : List Int) (e y : Int) (w : World) (hT : Tab w) (hX : Tens w) (hs : Str s xs) (hn : xs.length ≤ 281474976710655) (hm : Nml xs e) (hy : Dr xs e y) :
    Calls Tryz.prog 185 #[.agg #[], decV neg s e] w fun r w' => TryY neg xs e y w r w' := by
  have TR := hid (fun wx (b : Below w.heap.size w wx) => try_y10 neg s xs e y wx (hT.below b) (hX.below b) hs hn hm hy)
  have FF : Hid (∀ su w1 w2, Below w.heap.size w w1 → TryY neg xs e y w1 (.returned (.tuple #[.int .u64 (if su = true then Ie.sg neg y else 0), .bool su])) w2 → TryY neg xs e y w (.returned (.tuple #[.int .u64 (if su = true then Ie.sg neg y else 0), .bool su])) w2) := by
    rintro su w1 w2 b ⟨su', h1, h2, h3⟩
    exact ⟨su', h1, h2, below_on b h3⟩
  have B2 := hid (below_on (alloc_b w (.cells #[] 75)) (alloc_b _ (.cells #[.bool neg, .string s, .int .i64 e] 35)))
  have b2 := B2.out
  unfold decV at *
  clear hs hn hm hy hT hX
  go_enter Tryz.func185, Tryz.ntmps185
  go_wp2_with fail
  with_reducible refine (TR.out _ b2).mono ?_
  rintro r w1 ⟨su, h1, rfl, hB⟩
  have F := hid (FF.out su _ w1 b2 ⟨su, h1, rfl, hB⟩)
  clear hB h1 FF TR b2 B2
  generalize (if su = true then Ie.sg neg y else 0) = X at *
  go_wp2_with fail
  go_ret2
  exact F.out

set_option maxRecDepth 100000 in
set_option maxHeartbeats 1000000 in
theorem xdouble_any10 (neg : Bool) (s : ByteArray) (xs : List Int) (e y : Int) (w : World) (hT : Tab w) (hs : Str s xs) (hn : xs.length ≤ 281474976710655) (hm : Nml xs e) (hy : Dr xs e y) :
    Calls Tryz.prog 174 #[.agg #[], decV neg s e] w fun r w' => r = .returned (.tuple #[.int .u64 (Ie.sg neg y), .bool true]) ∧ Below w.heap.size w w' := by
  have NR := hid (fun wx (b : Below w.heap.size w wx) => near_any10 s xs e y wx (hT.below b) hs hn hm hy)
  have yb := hy.bd
  have b2 := below_on (alloc_b w (.cells #[] 63)) (alloc_b _ (.cells #[.bool neg, .string s, .int .i64 e] 35))
  have Z : Hid (Row3 ((w.alloc (.cells #[] 63)).alloc (.cells #[.bool neg, .string s, .int .i64 e] 35)) (w.heap.size + 1) (.bool neg) (.string s) (.int .i64 e)) := by
    have := Row3.new (w.alloc (.cells #[] 63)) (.bool neg) (.string s) (.int .i64 e)
    rw [show (w.alloc (.cells #[] 63)).heap.size = w.heap.size + 1 by simp] at this
    exact this
  have NG := hid (fun (wx : World) => neg_any y wx yb.1 (by omega))
  rw [show Ie.ng y = Ie.sg true y by unfold Ie.ng Ie.sg; rw [if_pos (by omega), if_pos rfl]] at NG
  unfold decV
  clear hs hn hm hy hT
  go_enter Tryz.func174, Tryz.ntmps174
  go_wp2_with fail
  with_reducible refine (NR.out _ b2).mono ?_
  rintro r w1 ⟨rfl, hB⟩
  have Z1 := hid (Z.out.below hB Z.out.lt)
  have B1 := hid (below_on b2 hB)
  obtain ⟨⟨c0, c1, c2⟩, _⟩ := Z1.out.cells
  clear hB b2 NR Z
  cases neg with
  | false =>
    go_wp2_with fail
    go_ret2
    exact ⟨rfl, B1.out⟩
  | true =>
    go_wp2_with fail
    with_reducible refine (NG.out _).mono ?_
    rintro r w2 ⟨rfl, rfl⟩
    go_wp2_with fail
    go_ret2
    exact ⟨rfl, B1.out⟩
end Go.Proofs.YthefpclblejbgaaGreatDoor

namespace Go.Proofs.YthefpclblejbgaaGreatDoor
open Go Go.RowKit Go.Deep

/-- A list of roads: the exact one alone, or the quick one ahead of it. -/
def RX (w : World) (b : Nat) : Prop := w.cell? ⟨b, 0, none⟩ = some (.iface 63 (.agg #[]))
def RQ (w : World) (b : Nat) : Prop := w.cell? ⟨b, 0, none⟩ = some (.iface 75 (.agg #[])) ∧ w.cell? ⟨b, 1, none⟩ = some (.iface 63 (.agg #[]))

theorem meth_x (w : World) : (method 297 63 (.agg #[]) "abacus/strtod.double").run Tryz.prog w = .ok (174, .agg #[]) w := by kernel_rfl
theorem meth_q (w : World) : (method 297 75 (.agg #[]) "abacus/strtod.double").run Tryz.prog w = .ok (185, .agg #[]) w := by kernel_rfl

set_option maxRecDepth 100000 in
set_option maxHeartbeats 1000000 in
theorem travel1_any10 (neg : Bool) (s : ByteArray) (xs : List Int) (e y : Int) (b : Nat) (w : World) (hT : Tab w) (hb : RX w b) (hs : Str s xs) (hn : xs.length ≤ 281474976710655) (hm : Nml xs e) (hy : Dr xs e y) :
    Calls Tryz.prog 20 #[decV neg s e, .slice (some ⟨b, 0, none⟩) 1 1] w fun r w' => r = .returned (.tuple #[.int .u64 (Ie.sg neg y), .int .i64 1]) ∧ Below w.heap.size w w' := by
  have XD := hid (fun wx (b : Below w.heap.size w wx) => xdouble_any10 neg s xs e y wx (hT.below b) hs hn hm hy)
  have b1 := alloc_b w (.cells #[.bool neg, .string s, .int .i64 e] 35)
  have Z := hid (Row3.new w (.bool neg) (.string s) (.int .i64 e))
  have c3 : w.cell? ⟨b, 0, none⟩ = some (.iface 63 (.agg #[])) := hb
  have lt := cell_lt c3
  unfold decV at *
  clear hs hn hm hy hT hb
  go_enter Tryz.func20, Tryz.ntmps20
  go_wp2_with fail
  generalize hW : w.alloc (.cells #[.bool neg, .string s, .int .i64 e] 35) = W at *
  obtain ⟨⟨c0, c1, c2⟩, _⟩ := Z.out.cells
  have c4 : W.cell? ⟨b, 0, none⟩ = some (.iface 63 (.agg #[])) := by rw [b1.cell lt]; exact c3
  clear hW c3
  go_loopw [12] (fun i wr => i = .int .i64 0 ∧ wr = W) (fun _ _ => 1)
  case atStart => exact ⟨rfl, rfl⟩
  case round =>
    obtain ⟨rfl, rfl⟩ := hrel
    have mx := meth_x
    go_wp2_with fail
    with_reducible refine (XD.out _ b1).mono ?_
    rintro r w1 ⟨rfl, hB⟩
    have B1 := hid (below_on b1 hB)
    clear hB b1 XD c0 c1 c2 c4
    go_wp2_with fail
    go_ret2
    exact ⟨rfl, B1.out⟩

/-- A Dec in its box. -/
def DX (w wx : World) (b : Nat) (neg : Bool) (s : ByteArray) (e : Int) : Prop := Below w.heap.size w wx ∧ w.heap.size ≤ b ∧ Row3 wx b (.bool neg) (.string s) (.int .i64 e)
theorem DX.new (w : World) (neg : Bool) (s : ByteArray) (e : Int) : DX w (w.alloc (.cells #[.bool neg, .string s, .int .i64 e] 35)) w.heap.size neg s e := ⟨alloc_b _ _, Nat.le_refl _, Row3.new _ _ _ _⟩
theorem DX.new' {w w1 : World} (h : Below w.heap.size w w1) (neg : Bool) (s : ByteArray) (e : Int) : DX w (w1.alloc (.cells #[.bool neg, .string s, .int .i64 e] 35)) w1.heap.size neg s e := ⟨below_on h (alloc_b _ _), h.size, Row3.new _ _ _ _⟩
theorem DX.on {w wx wy : World} {b : Nat} {neg : Bool} {s : ByteArray} {e : Int} (h : DX w wx b neg s e) (k : Below wx.heap.size wx wy) : DX w wy b neg s e := ⟨below_on h.1 k, h.2.1, h.2.2.below k h.2.2.lt⟩
theorem DX.drew {w wx : World} {b : Nat} {neg : Bool} {s : ByteArray} {e : Int} (h : DX w wx b neg s e) : DX w wx.drew b neg s e := h.on (below_drewN (Below.refl _ _) 1)
theorem DX.three {w wx : World} {b : Nat} {neg : Bool} {s : ByteArray} {e : Int} (h : DX w wx b neg s e) : wx.cell? ⟨b, 0, none⟩ = some (.bool neg) ∧ wx.cell? ⟨b, 1, none⟩ = some (.string s) ∧ wx.cell? ⟨b, 2, none⟩ = some (.int .i64 e) := h.2.2.cells.1
theorem DX.put {w wx : World} {b : Nat} {neg : Bool} {s : ByteArray} {e : Int} (h : DX w wx b neg s e) (neg' : Bool) (s' : ByteArray) (e' : Int) : DX w (((wx.setCell ⟨b, 0, none⟩ (.bool neg')).setCell ⟨b, 1, none⟩ (.string s')).setCell ⟨b, 2, none⟩ (.int .i64 e')) b neg' s' e' := ⟨set3_below h.1 h.2.1, h.2.1, h.2.2.put _ _ _⟩

def RL (q : Bool) (w : World) (b : Nat) : Prop := b < w.heap.size ∧ (if q = true then RQ w b else RX w b)
def ln (q : Bool) : Nat := if q = true then 2 else 1
theorem RL.below {q : Bool} {w w' : World} {b : Nat} (h : RL q w b) (k : Below w.heap.size w w') : RL q w' b := by
  refine ⟨Nat.lt_of_lt_of_le h.1 k.size, ?_⟩
  have h2 := h.2
  cases q with
  | true =>
    have h3 : RQ w b := h2
    have h4 : RQ w' b := ⟨by rw [k.cell (p := ⟨b, 0, none⟩) h.1]; exact h3.1, by rw [k.cell (p := ⟨b, 1, none⟩) h.1]; exact h3.2⟩
    exact h4
  | false =>
    have h3 : RX w b := h2
    have h4 : RX w' b := by unfold RX; rw [k.cell (p := ⟨b, 0, none⟩) h.1]; exact h3
    exact h4

/-- What travel tells: the double, and which road told it. -/
def TravTold (q neg : Bool) (xs : List Int) (e y : Int) (w : World) (r : Ending) (w' : World) : Prop :=
  ∃ k : Int, (q = true → ∃ su x, TellIs xs e x su ∧ k = if su = true then 1 else 2) ∧ r = .returned (.tuple #[.int .u64 (Ie.sg neg y), .int .i64 k]) ∧ Below w.heap.size w w'

def TS (w : World) (b : Nat) (neg : Bool) (s : ByteArray) (xs : List Int) (e : Int) (j : Nat) (wr : World) : Prop := DX w wr w.heap.size neg s e ∧ RL true wr b ∧ (j = 0 ∨ (j = 1 ∧ ∃ x, TellIs xs e x false))

set_option maxRecDepth 100000 in
set_option maxHeartbeats 1000000 in
theorem travel2_any10 (neg : Bool) (s : ByteArray) (xs : List Int) (e y : Int) (b : Nat) (w : World) (hT : Tab w) (hX : Tens w) (hb : RL true w b) (hs : Str s xs) (hn : xs.length ≤ 281474976710655) (hm : Nml xs e) (hy : Dr xs e y) :
    Calls Tryz.prog 20 #[decV neg s e, .slice (some ⟨b, 0, none⟩) 2 2] w fun r w' => TravTold true neg xs e y w r w' := by
  have XD := hid (fun wx (b : Below w.heap.size w wx) => xdouble_any10 neg s xs e y wx (hT.below b) hs hn hm hy)
  have QD := hid (fun wx (b : Below w.heap.size w wx) => qdouble_any10 neg s xs e y wx (hT.below b) (hX.below b) hs hn hm hy)
  have ST : Hid (TS w b neg s xs e 0 (w.alloc (.cells #[.bool neg, .string s, .int .i64 e] 35))) := ⟨DX.new _ _ _ _, hb.below (alloc_b _ _), .inl rfl⟩
  have FF : Hid (∀ su x w', TellIs xs e x su → Below w.heap.size w w' → TravTold true neg xs e y w (.returned (.tuple #[.int .u64 (Ie.sg neg y), .int .i64 (if su = true then 1 else 2)])) w') := fun su x w' h k => ⟨_, fun _ => ⟨su, x, h, rfl⟩, rfl, k⟩
  unfold decV at *
  have mx := meth_x
  have mq := meth_q
  clear hs hn hm hy hT hX hb
  go_enter Tryz.func20, Tryz.ntmps20
  go_wp2_with fail
  generalize hW : w.alloc (.cells #[.bool neg, .string s, .int .i64 e] 35) = W at *
  clear hW
  go_loopw [12] (fun i wr => ∃ j : Nat, i = .int .i64 j ∧ Hid (TS w b neg s xs e j wr)) (fun i _ => 2 - (intOf i).toNat)
  case atStart => exact ⟨0, rfl, ST.out⟩
  case round =>
    clear ST
    obtain ⟨j, rfl, I⟩ := hrel
    obtain ⟨i1, i2, i3⟩ := I.out
    have b1 := i1.1
    obtain ⟨c0, c1, c2⟩ := i1.three
    obtain ⟨c3, c4⟩ : RQ wr b := i2.2
    have HD := hid i1
    have HL := hid i2
    clear i1 i2 I
    rcases i3 with rfl | ⟨rfl, hsu⟩
    · go_wp2_with fail
      with_reducible refine (QD.out _ b1).mono ?_
      rintro r w1 ⟨su, ⟨x, hx⟩, rfl, hB⟩
      have B1 := hid (below_on b1 hB)
      cases su with
      | true =>
        have F := hid (FF.out true x w1 hx B1.out)
        clear hB b1 hx XD QD c0 c1 c2 c3 c4 HD HL FF
        go_wp2_with fail
        go_ret2
        exact F.out
      | false =>
        have S2 : Hid (TS w b neg s xs e 1 w1) := ⟨HD.out.on hB, HL.out.below hB, .inr ⟨rfl, x, hx⟩⟩
        clear hB b1 hx XD QD c0 c1 c2 c3 c4 HD HL FF
        go_wp2_with fail
        go_roundw
        case rel => exact ⟨1, rfl, S2.out⟩
        case measure => simp [intOf]
    · obtain ⟨x, hx⟩ := hsu
      have HX := hid hx
      clear hx
      go_wp2_with fail
      with_reducible refine (XD.out _ b1).mono ?_
      rintro r w1 ⟨rfl, hB⟩
      have F := hid (FF.out false x w1 HX.out (below_on b1 hB))
      clear hB b1 XD QD c0 c1 c2 c3 c4 HD HL FF HX
      go_wp2_with fail
      go_ret2
      exact F.out

theorem travel_any10 (q neg : Bool) (s : ByteArray) (xs : List Int) (e y : Int) (b : Nat) (w : World) (hT : Tab w) (hX : Tens w) (hb : RL q w b) (hs : Str s xs) (hn : xs.length ≤ 281474976710655) (hm : Nml xs e) (hy : Dr xs e y) :
    Calls Tryz.prog 20 #[decV neg s e, .slice (some ⟨b, 0, none⟩) (ln q) (ln q)] w fun r w' => TravTold q neg xs e y w r w' := by
  cases q with
  | true => exact travel2_any10 neg s xs e y b w hT hX hb hs hn hm hy
  | false =>
    refine (travel1_any10 neg s xs e y b w hT hb.2 hs hn hm hy).mono ?_
    rintro r w' ⟨rfl, hB⟩
    exact ⟨1, fun h => absurd h (by simp), rfl, hB⟩

set_option maxRecDepth 100000 in
theorem roads_any10 (w : World) : Calls Tryz.prog 21 #[] w fun r w' => (∃ b, r = .returned (.slice (some ⟨b, 0, none⟩) 2 2) ∧ RL true w' b) ∧ Below w.heap.size w w' := by
  have F : Hid (∀ t, (∃ b, Ending.returned (.slice (some ⟨w.heap.size, 0, none⟩) 2 2) = .returned (.slice (some ⟨b, 0, none⟩) 2 2) ∧ RL true (w.alloc (.cells #[.iface 75 (.agg #[]), .iface 63 (.agg #[])] t)) b) ∧ Below w.heap.size w (w.alloc (.cells #[.iface 75 (.agg #[]), .iface 63 (.agg #[])] t))) := fun t => ⟨⟨_, rfl, by simp, by
    have h : RQ (w.alloc (.cells #[.iface 75 (.agg #[]), .iface 63 (.agg #[])] t)) w.heap.size := ⟨by simp, by simp⟩
    exact h⟩, alloc_b _ _⟩
  go_enter Tryz.func21, Tryz.ntmps21
  go_wp2_with fail
  go_ret
  exact F.out _
end Go.Proofs.YthefpclblejbgaaGreatDoor

namespace Go.Proofs.YthefpclblejbgaaGreatDoor
open Go Go.RowKit Go.Deep

/-- What Exact and Double tell. -/
def ConvTold (neg : Bool) (xs : List Int) (e y : Int) (w : World) (r : Ending) (w' : World) : Prop :=
  r = .returned (.tuple #[.int .u64 (if Sc.IsDec xs e then Ie.sg neg y else 0), .int .i64 (errOf xs e)]) ∧ Below w.heap.size w w'

theorem nmd_pos10 {neg : Bool} {xs : List Int} {e : Int} (h : Sc.IsDec xs e) : nmd neg xs e = Sc.nrm neg xs e := by unfold nmd; rw [if_pos h]

set_option maxRecDepth 100000 in
set_option maxHeartbeats 1000000 in
theorem convert_any10 (q neg : Bool) (s : ByteArray) (xs : List Int) (e y : Int) (b : Nat) (w : World) (hT : Tab w) (hX : Tens w) (hb : RL q w b) (hs : Str s xs) (hn : xs.length ≤ 281474976710654) (hy : Dr xs e y) :
    Calls Tryz.prog 27 #[decV neg s e, .slice (some ⟨b, 0, none⟩) (ln q) (ln q)] w fun r w' => ConvTold neg xs e y w r w' := by
  have NM := hid (fun wx => norm_any neg s xs e wx hs (by omega))
  have Z := hid (DX.new w neg s e)
  have TV : Hid (Sc.IsDec xs e → ∀ t wx, Str t (nmd neg xs e).ds → Below w.heap.size w wx → Calls Tryz.prog 20 #[.agg #[.bool (nmd neg xs e).neg, .string t, .int .i64 (nmd neg xs e).e], .slice (some ⟨b, 0, none⟩) (ln q) (ln q)] wx fun r w' => TravTold q neg (nmd neg xs e).ds (nmd neg xs e).e y wx r w') := fun hd t wx ht hB => by
    have e0 := nmd_pos10 (neg := neg) hd
    have ln := Sc.nrm_len neg xs e
    have := travel_any10 q (nmd neg xs e).neg t (nmd neg xs e).ds (nmd neg xs e).e y b wx (hT.below hB) (hX.below hB) (hb.below hB) ht (by rw [e0]; omega) (by rw [e0]; exact nml_nrm neg hd) (by rw [e0]; exact hy.nrm')
    rw [show (nmd neg xs e).neg = neg by rw [e0]; exact Sc.nrm_neg neg xs e] at this ⊢
    exact this
  have F0 : Hid (¬ Sc.IsDec xs e → ∀ w', Below w.heap.size w w' → ConvTold neg xs e y w (.returned (.tuple #[.int .u64 0, .int .i64 80])) w') := fun h w' k => ⟨by unfold errOf; rw [if_neg h, if_neg h], k⟩
  have F1 : Hid (Sc.IsDec xs e → ∀ w', Below w.heap.size w w' → ConvTold neg xs e y w (.returned (.tuple #[.int .u64 (Ie.sg neg y), .int .i64 0])) w') := fun h w' k => ⟨by unfold errOf; rw [if_pos h, if_pos h], k⟩
  unfold decV at *
  clear hs hn hy hT hX hb
  generalize ln q = L at *
  go_enter Tryz.func27, Tryz.ntmps27
  go_upto_region 1 with fail
  generalize hW : w.alloc (.cells #[.bool neg, .string s, .int .i64 e] 35) = W at *
  clear hW
  obtain ⟨c0, c1, c2⟩ := Z.out.three
  go_wp2_with fail
  with_reducible refine (NM.out _).mono ?_
  rintro r w1 ⟨v, rfl, ⟨t, rfl, ht⟩, hB⟩
  unfold decV
  have Z1 := hid (Z.out.on hB)
  have S1 := hid (Z1.out.put (nmd neg xs e).neg t (nmd neg xs e).e)
  clear c0 c1 c2 hB
  obtain ⟨⟨c0, c1, c2⟩, f0, f1, f2⟩ := Z1.out.2.2.cells
  by_cases hd : Sc.IsDec xs e
  · have E0 : errOf xs e = 0 := by unfold errOf; rw [if_pos hd]
    rw [E0]
    have T1 := hid (fun wx => TV.out hd t wx ht)
    have F := hid (F1.out hd)
    clear E0 ht hd TV F0 F1 NM Z Z1
    generalize nmd neg xs e = N at *
    go_upto_region 4 with fail
    generalize hW : ((w1.setCell ⟨w.heap.size, 0, none⟩ (.bool N.neg)).setCell ⟨w.heap.size, 1, none⟩ (.string t)).setCell ⟨w.heap.size, 2, none⟩ (.int .i64 N.e) = W1 at *
    clear hW c0 c1 c2 f0 f1 f2
    obtain ⟨c0, c1, c2⟩ := S1.out.three
    have b1 := S1.out.1
    go_wp2_with fail
    with_reducible refine (T1.out _ b1).mono ?_
    rintro r w2 ⟨k, _, rfl, hB⟩
    have B2 := hid (below_on b1 hB)
    clear hB b1 c0 c1 c2 S1 T1
    go_wp2_with fail
    go_ret2
    exact F.out _ B2.out
  · have E0 : errOf xs e = 80 := by unfold errOf; rw [if_neg hd]
    rw [E0]
    have F := hid (F0.out hd)
    clear E0 ht hd TV F0 F1 NM Z Z1
    generalize nmd neg xs e = N at *
    go_wp2_with fail
    go_ret2
    exact F.out _ S1.out.1

set_option maxRecDepth 100000 in
set_option maxHeartbeats 1000000 in
theorem exact_any10 (neg : Bool) (s : ByteArray) (xs : List Int) (e y : Int) (w : World) (hT : Tab w) (hX : Tens w) (hs : Str s xs) (hn : xs.length ≤ 281474976710654) (hy : Dr xs e y) :
    Calls Tryz.prog 12 #[decV neg s e] w fun r w' => ConvTold neg xs e y w r w' := by
  have CV : Hid (∀ b wx, Below w.heap.size w wx → RL false wx b → Calls Tryz.prog 27 #[decV neg s e, .slice (some ⟨b, 0, none⟩) 1 1] wx fun r w' => ConvTold neg xs e y wx r w') := fun b wx k h => convert_any10 false neg s xs e y b wx (hT.below k) (hX.below k) h hs hn hy
  have Z := hid (DX.new w neg s e)
  have RN : Hid (∀ wx t, Below w.heap.size w wx → Below w.heap.size w (wx.alloc (.cells #[.iface 63 (.agg #[])] t)) ∧ RL false (wx.alloc (.cells #[.iface 63 (.agg #[])] t)) wx.heap.size) := fun wx t k => ⟨below_on k (alloc_b _ _), by simp, by
    have h : RX (wx.alloc (.cells #[.iface 63 (.agg #[])] t)) wx.heap.size := by unfold RX; simp
    exact h⟩
  have FF : Hid (∀ w1 w' X E, Below w.heap.size w w1 → ConvTold neg xs e y w1 (.returned (.tuple #[.int .u64 X, .int .i64 E])) w' → ConvTold neg xs e y w (.returned (.tuple #[.int .u64 X, .int .i64 E])) w') := fun w1 w' X E k h => ⟨h.1, below_on k h.2⟩
  unfold decV at *
  clear hs hn hy hT hX
  go_enter Tryz.func12, Tryz.ntmps12
  go_upto_region 1 with fail
  generalize hW : w.alloc (.cells #[.bool neg, .string s, .int .i64 e] 35) = W at *
  clear hW
  obtain ⟨c0, c1, c2⟩ := Z.out.three
  have R1 := hid (fun t => RN.out W t Z.out.1)
  clear RN Z
  go_wp2_with fail
  with_reducible refine (CV.out _ _ (R1.out _).1 (R1.out _).2).mono ?_
  rintro r w1 ⟨rfl, hB⟩
  have F := hid (FF.out _ w1 _ _ (R1.out _).1 ⟨rfl, hB⟩)
  clear hB FF R1 CV c0 c1 c2
  generalize (if Sc.IsDec xs e then Ie.sg neg y else 0) = X at *
  generalize errOf xs e = E at *
  go_wp2_with fail
  go_ret2
  exact F.out

set_option maxRecDepth 100000 in
set_option maxHeartbeats 1000000 in
theorem double_any10 (neg : Bool) (s : ByteArray) (xs : List Int) (e y : Int) (w : World) (hT : Tab w) (hX : Tens w) (hs : Str s xs) (hn : xs.length ≤ 281474976710654) (hy : Dr xs e y) :
    Calls Tryz.prog 13 #[decV neg s e] w fun r w' => ConvTold neg xs e y w r w' := by
  have CV : Hid (∀ b wx, Below w.heap.size w wx → RL true wx b → Calls Tryz.prog 27 #[decV neg s e, .slice (some ⟨b, 0, none⟩) 2 2] wx fun r w' => ConvTold neg xs e y wx r w') := fun b wx k h => convert_any10 true neg s xs e y b wx (hT.below k) (hX.below k) h hs hn hy
  have RO := hid roads_any10
  have Z := hid (DX.new w neg s e)
  have FF : Hid (∀ w1 w' X E, Below w.heap.size w w1 → ConvTold neg xs e y w1 (.returned (.tuple #[.int .u64 X, .int .i64 E])) w' → ConvTold neg xs e y w (.returned (.tuple #[.int .u64 X, .int .i64 E])) w') := fun w1 w' X E k h => ⟨h.1, below_on k h.2⟩
  unfold decV at *
  clear hs hn hy hT hX
  go_enter Tryz.func13, Tryz.ntmps13
  go_upto_region 1 with fail
  generalize hW : w.alloc (.cells #[.bool neg, .string s, .int .i64 e] 35) = W at *
  clear hW
  have SD := hid Z.out.drew
  obtain ⟨X, hXX⟩ : ∃ X, (if Sc.IsDec xs e then Ie.sg neg y else 0) = X := ⟨_, rfl⟩
  obtain ⟨E, hEE⟩ : ∃ E, errOf xs e = E := ⟨_, rfl⟩
  have CT : Hid (∀ wx r w', ConvTold neg xs e y wx r w' → r = .returned (.tuple #[.int .u64 X, .int .i64 E]) ∧ Below wx.heap.size wx w') := fun wx r w' h => by rw [← hXX, ← hEE]; exact h
  have CT' : Hid (∀ wx w', Below wx.heap.size wx w' → ConvTold neg xs e y wx (.returned (.tuple #[.int .u64 X, .int .i64 E])) w') := fun wx w' h => ⟨by rw [hXX, hEE], h⟩
  clear hXX hEE
  go_region_held3 (fun w' => w'.cell? ⟨w.heap.size, 0, none⟩ = some (.bool neg) ∧ w'.cell? ⟨w.heap.size, 1, none⟩ = some (.string s) ∧ w'.cell? ⟨w.heap.size, 2, none⟩ = some (.int .i64 e)) (first | (with_reducible exact T2.out.three) | (with_reducible exact T1.out.three) | (with_reducible exact SD.out.three)) (first
    | (go_at_call 21; refine (RO.out _).mono ?_; rintro r w2 ⟨⟨b, rfl, hl⟩, hB⟩; have T1 := hid (SD.out.on hB); have HL := hid hl; have b2 := T1.out.1; clear hB hl)
    | (go_at_call 27; refine (CV.out _ _ b2 HL.out).mono ?_; intro r w3 h; obtain ⟨rfl, hB⟩ := CT.out _ _ _ h; have F := hid (FF.out _ w3 _ _ b2 (CT'.out _ _ hB)); have T2 := hid (T1.out.on hB); clear h hB b2))
  all_goals go_wp2_with fail
  all_goals go_ret2
  all_goals exact F.out
end Go.Proofs.YthefpclblejbgaaGreatDoor

namespace Go.Proofs.YthefpclblejbgaaGreatDoor
namespace Sc

/-- A number's digits, as bytes. -/
def dl (u : Nat) : List Int := (Lib.decDigits u).map fun b => (b.toNat : Int)
theorem dl_small {u : Nat} (h : u < 10) : dl u = [48 + (u : Int)] := by
  unfold dl
  rw [Lib.decDigits_one h]
  simp only [List.map_cons, List.map_nil]
  rw [UInt8.toNat_ofNat_of_lt' (by show 48 + u < 256; omega)]
  simp
theorem dl_big {u : Nat} (h : ¬ u < 10) : dl u = dl (u / 10) ++ [48 + ((u % 10 : Nat) : Int)] := by
  unfold dl
  rw [Lib.decDigits, dif_neg h, List.map_append]
  simp only [List.map_cons, List.map_nil]
  rw [UInt8.toNat_ofNat_of_lt' (by show 48 + u % 10 < 256; omega)]
  simp
theorem dl_is (u : Nat) : (∀ x ∈ dl u, dg x = true) ∧ dl u ≠ [] ∧ cap (dl u) = min (u : Int) 1000000000000000 := by
  induction u using Nat.strongRecOn with
  | _ u ih =>
    by_cases h : u < 10
    · rw [dl_small h]
      refine ⟨fun x hx => ?_, by simp, ?_⟩
      · rw [List.mem_singleton] at hx; subst hx; rw [dg_iff]; omega
      · have := cap_snoc [] (48 + (u : Int))
        rw [List.nil_append, cap_nil] at this
        rw [this]; omega
    · obtain ⟨h1, h2, h3⟩ := ih (u / 10) (by omega)
      rw [dl_big h]
      refine ⟨fun x hx => ?_, by simp, ?_⟩
      · rw [List.mem_append, List.mem_singleton] at hx
        rcases hx with hx | hx
        · exact h1 x hx
        · subst hx; rw [dg_iff]; omega
      · rw [cap_snoc, h3]; omega

theorem run_app {p : Int → Bool} (hp : p 0 = false) {as' bs cs : List Int} (h1 : ∀ x ∈ bs, p x = true) (h2 : p (pk cs 0) = false) : run p (as' ++ bs ++ cs) as'.length = bs.length := by
  apply run_is hp
  · intro j hj
    rw [pk_append, if_pos (by simp; omega), pk_append, if_neg (by omega), show as'.length + j - as'.length = j by omega]
    apply h1
    simp [pk, List.getD, hj]
  · rw [pk_append, if_neg (by simp), show as'.length + bs.length - (as' ++ bs).length = 0 by simp]
    exact h2
theorem take_app {as' bs cs : List Int} : ((as' ++ bs ++ cs).drop as'.length).take bs.length = bs := by
  rw [List.append_assoc, List.drop_left, List.take_left]

/-- Digits that are there, all digits. -/
def Dig (ds : List Int) : Prop := ds ≠ [] ∧ ∀ x ∈ ds, dg x = true
theorem Dig.pk0 {ds : List Int} (h : Dig ds) : dg (pk ds 0) = true := by
  obtain ⟨h1, h2⟩ := h
  cases ds with
  | nil => exact absurd rfl h1
  | cons x l => exact h2 x (by simp)

end Sc
end Go.Proofs.YthefpclblejbgaaGreatDoor

namespace Go.Proofs.YthefpclblejbgaaGreatDoor
namespace Sc

def sgT (n : Int) : List Int := if n = 1 then [43] else if n = 2 then [45] else []
theorem pk_at (U V : List Int) (i : Nat) : pk (U ++ V) (U.length + i) = pk V i := by rw [pk_append, if_neg (by omega), Nat.add_sub_cancel_left]
theorem pk_at0 (U V : List Int) : pk (U ++ V) U.length = pk V 0 := pk_at U V 0
theorem pk_or (A B : List Int) : pk (A ++ B) 0 = if A = [] then pk B 0 else pk A 0 := by
  cases A with
  | nil => rfl
  | cons x l => rfl
theorem pk_dig {A : List Int} (h : ∀ x ∈ A, dg x = true) (h0 : A ≠ []) : dg (pk A 0) = true := Dig.pk0 ⟨h0, h⟩

/-- The sign at the head. -/
theorem sg_made (P V : List Int) (n : Int) (h : ¬ (pk V 0 = 43 ∨ pk V 0 = 45)) : sg (P ++ sgT n ++ V) P.length = (sgT n).length ∧ (pk (P ++ sgT n ++ V) P.length = 45 ↔ n = 2) := by
  rw [List.append_assoc]
  unfold sg
  rw [pk_at0]
  unfold sgT
  by_cases h1 : n = 1
  · subst h1
    exact ⟨rfl, ⟨fun c => by have : (43 : Int) = 45 := c; omega, fun c => by omega⟩⟩
  · rw [if_neg h1]
    by_cases h2 : n = 2
    · subst h2
      exact ⟨rfl, ⟨fun _ => rfl, fun _ => rfl⟩⟩
    · rw [if_neg h2, List.nil_append, if_neg h]
      exact ⟨rfl, ⟨fun c => absurd (.inr c) h, fun c => absurd c h2⟩⟩

/-- The exponent's part, and its worth. -/
def exL (el : Option Int) (m : Int) (E : Nat) : List Int := match el with | some c => c :: (sgT m ++ dl E) | none => []
def exS (el : Option Int) (m : Int) (E : Nat) : Int := match el with | some _ => if m = 2 then - min (E : Int) 1000000000000000 else min (E : Int) 1000000000000000 | none => 0

/-- The parts of a literal behind P, and what follows. -/
theorem made_lit (P A B tail : List Int) (n m : Int) (pt : Bool) (el : Option Int) (E : Nat) (hA : ∀ x ∈ A, dg x = true) (hB : ∀ x ∈ B, dg x = true) (hne : A.length + (if pt = true then B.length else 0) ≠ 0)
    (hel : ∀ c, el = some c → c = 101 ∨ c = 69) (ht : dg (pk tail 0) = false ∧ pk tail 0 ≠ 46 ∧ isE (pk tail 0) = false ∧ pk tail 0 ≠ 43 ∧ pk tail 0 ≠ 45) :
    some? (P ++ sgT n ++ A ++ ((if pt = true then 46 :: B else []) ++ (exL el m E ++ tail))) P.length ∧
    lit (P ++ sgT n ++ A ++ ((if pt = true then 46 :: B else []) ++ (exL el m E ++ tail))) P.length =
      ⟨decide (n = 2), A, if pt = true then B else [], exS el m E,
        (P ++ sgT n ++ A ++ ((if pt = true then 46 :: B else []) ++ exL el m E)).length⟩ := by
  obtain ⟨ex, hex⟩ : ∃ ex : List Int, ex = exL el m E := ⟨_, rfl⟩
  obtain ⟨dot, hdot⟩ : ∃ dot : List Int, dot = (if pt = true then 46 :: B else []) := ⟨_, rfl⟩
  rw [← hex, ← hdot]
  -- the first byte of the exponent's part and what follows
  have x0 : dg (pk (ex ++ tail) 0) = false ∧ pk (ex ++ tail) 0 ≠ 46 ∧ pk (ex ++ tail) 0 ≠ 43 ∧ pk (ex ++ tail) 0 ≠ 45 := by
    cases el with
    | none => rw [hex]; exact ⟨ht.1, ht.2.1, ht.2.2.2.1, ht.2.2.2.2⟩
    | some c =>
      rw [hex]
      have := hel c rfl
      show dg c = false ∧ c ≠ 46 ∧ c ≠ 43 ∧ c ≠ 45
      refine ⟨?_, by omega, by omega, by omega⟩
      rw [dg_not]; omega
  have d0 : dg (pk (dot ++ (ex ++ tail)) 0) = false ∧ pk (dot ++ (ex ++ tail)) 0 ≠ 43 ∧ pk (dot ++ (ex ++ tail)) 0 ≠ 45 ∧ (pk (dot ++ (ex ++ tail)) 0 = 46 ↔ pt = true) := by
    cases pt with
    | false => rw [hdot]; exact ⟨x0.1, x0.2.2.1, x0.2.2.2, ⟨fun c => absurd c x0.2.1, fun c => by simp at c⟩⟩
    | true => rw [hdot]; exact ⟨rfl, by show (46 : Int) ≠ 43; omega, by show (46 : Int) ≠ 45; omega, ⟨fun _ => rfl, fun _ => rfl⟩⟩
  obtain ⟨R, hR⟩ : ∃ R, R = dot ++ (ex ++ tail) := ⟨_, rfl⟩
  rw [← hR] at d0 ⊢
  have a0 : ¬ (pk (A ++ R) 0 = 43 ∨ pk (A ++ R) 0 = 45) := by
    rw [pk_or]
    split
    · intro c; rcases c with c | c; exact d0.2.1 c; exact d0.2.2.1 c
    · next c => have := dg_iff.1 (pk_dig hA c); omega
  obtain ⟨s1, s2⟩ := sg_made P (A ++ R) n a0
  rw [← List.append_assoc] at s1 s2
  obtain ⟨xs, hxs⟩ : ∃ xs, xs = P ++ sgT n ++ A ++ R := ⟨_, rfl⟩
  rw [← hxs] at s1 s2 ⊢
  have e1 : p1 xs P.length = (P ++ sgT n).length := by unfold p1; rw [s1, List.length_append]
  have r1 : run dg xs (P ++ sgT n).length = A.length := by rw [hxs]; exact run_app dg0 hA d0.1
  have e2 : p2 xs P.length = (P ++ sgT n ++ A).length := by unfold p2; rw [e1, r1]; exact List.length_append.symm
  have ah : (xs.drop (p1 xs P.length)).take (run dg xs (p1 xs P.length)) = A := by rw [e1, r1, hxs]; exact take_app
  have k2 : pk xs (p2 xs P.length) = pk R 0 := by rw [e2, hxs, pk_at0]
  -- the point
  have pnt : bn xs P.length = (if pt = true then B.length else 0) ∧ p3 xs P.length = (P ++ sgT n ++ A ++ dot).length ∧ (xs.drop (p2 xs P.length + 1)).take (bn xs P.length) = (if pt = true then B else []) := by
    cases pt with
    | false =>
      have c : ¬ pk xs (p2 xs P.length) = 46 := by rw [k2]; intro c; exact absurd (d0.2.2.2.1 c) (by simp)
      refine ⟨by unfold bn; rw [if_neg c]; rfl, by unfold p3; rw [if_neg c, e2, hdot]; simp, ?_⟩
      have : bn xs P.length = 0 := by unfold bn; rw [if_neg c]
      rw [this]; rfl
    | true =>
      have c : pk xs (p2 xs P.length) = 46 := by rw [k2]; exact d0.2.2.2.2 rfl
      have hd : dot = 46 :: B := by rw [hdot]; rfl
      have hx2 : xs = (P ++ sgT n ++ A ++ [46]) ++ B ++ (ex ++ tail) := by rw [hxs, hR, hd]; simp
      have l2 : p2 xs P.length + 1 = (P ++ sgT n ++ A ++ [46]).length := by rw [e2]; simp; omega
      have r2 : run dg xs (p2 xs P.length + 1) = B.length := by rw [l2, hx2]; exact run_app dg0 hB x0.1
      have b2 : bn xs P.length = B.length := by unfold bn; rw [if_pos c, r2]
      refine ⟨b2, ?_, ?_⟩
      · unfold p3; rw [if_pos c, r2, e2, hd]; simp; omega
      · rw [b2, l2, hx2]; exact take_app
  obtain ⟨b1, b2, b3⟩ := pnt
  have hsome : some? xs P.length := by unfold some?; rw [e1, r1, b1]; exact hne
  refine ⟨hsome, ?_⟩
  have ng : decide (pk xs P.length = 45) = decide (n = 2) := decide_eq_decide.2 s2
  have hx3 : xs = (P ++ sgT n ++ A ++ dot) ++ (ex ++ tail) := by rw [hxs, hR]; simp
  have k3 : ∀ i, pk xs (p3 xs P.length + i) = pk (ex ++ tail) i := fun i => by rw [b2, hx3]; exact pk_at _ _ i
  have k30 : pk xs (p3 xs P.length) = pk (ex ++ tail) 0 := k3 0
  cases el with
  | none =>
    have hE : hasE xs (p3 xs P.length) = false := by
      unfold hasE; rw [k30, hex]; show (isE (pk tail 0) && _) = false; rw [ht.2.2.1, Bool.false_and]
    unfold lit
    rw [ah, ng, b3, hE, b2, hex]
    simp [exL, exS]
  | some c =>
    have hc := hel c rfl
    have hex' : ex = c :: (sgT m ++ dl E) := hex
    obtain ⟨k1, k2', k3'⟩ := dl_is E
    have dp := dg_iff.1 (pk_dig k1 k2')
    have hx4 : xs = (P ++ sgT n ++ A ++ dot ++ [c]) ++ sgT m ++ (dl E ++ tail) := by rw [hx3, hex']; simp
    have l4 : p3 xs P.length + 1 = (P ++ sgT n ++ A ++ dot ++ [c]).length := by rw [b2]; simp; omega
    obtain ⟨t1, t2⟩ := sg_made (P ++ sgT n ++ A ++ dot ++ [c]) (dl E ++ tail) m (by rw [pk_or, if_neg k2']; omega)
    rw [← hx4, ← l4] at t1 t2
    have e4 : p4 xs (p3 xs P.length) = (P ++ sgT n ++ A ++ dot ++ [c] ++ sgT m).length := by unfold p4; rw [t1, l4, ← List.length_append]
    have hx5 : xs = (P ++ sgT n ++ A ++ dot ++ [c] ++ sgT m) ++ dl E ++ tail := by rw [hx4]; simp
    have r4 : run dg xs (p4 xs (p3 xs P.length)) = (dl E).length := by rw [e4, hx5]; exact run_app dg0 k1 ht.1
    have tk : (xs.drop (p4 xs (p3 xs P.length))).take (run dg xs (p4 xs (p3 xs P.length))) = dl E := by rw [r4, e4, hx5]; exact take_app
    have hE : hasE xs (p3 xs P.length) = true := by
      unfold hasE
      rw [k30, hex']
      have h1 : isE (pk (c :: (sgT m ++ dl E) ++ tail) 0) = true := by show isE c = true; simp [isE]; exact hc
      rw [h1, Bool.true_and, e4, hx5, List.append_assoc _ (dl E), pk_at0, pk_or, if_neg k2']
      exact pk_dig k1 k2'
    unfold lit
    rw [ah, ng, b3, hE, tk, k3', if_pos rfl, if_pos rfl, r4, e4]
    congr 1
    · by_cases hm : m = 2
      · rw [if_pos (t2.2 hm)]; simp [exS, hm]
      · rw [if_neg (fun h => hm (t2.1 h))]; simp [exS, hm]
    · rw [hex']; simp; omega
end Sc
end Go.Proofs.YthefpclblejbgaaGreatDoor
