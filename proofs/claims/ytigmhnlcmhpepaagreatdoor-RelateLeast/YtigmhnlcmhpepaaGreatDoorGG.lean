/-
  Texts put together: Len, BitLenW, SmallA, BlenIs, TrailW, FTab, LTab.
-/
import Derived.Test.YtigmhnlcmhpepaaGreatDoorWalk1
import Derived.Shelf.Strconv.Itoa0
import Derived.Test.YtigmhnlcmhpepaaGreatDoorWalk5a
import Derived.Test.YtigmhnlcmhpepaaGreatDoorNums
import Derived.Laws.Bits64b
import Derived.Lib.ItoaNum
import Derived.Shelf.Spec.TrailingZeros
import Derived.Lib.LaidTab
import Derived.Test.YtigmhnlcmhpepaaGreatDoorVItoa
namespace Go.Proofs.YtigmhnlcmhpepaaGreatDoor
open Go.RowKit Go.Deep

/-- The kit's contract for Len64, laid at this program. -/
def lenRen : Go.Shelf.Ren := ⟨fun _ => 66, fun t => if t = 53 then 22 else if t = 46 then 102 else if t = 5 then 5 else if t = 9 then 9 else if t = 4 then 4 else 3, fun g => g⟩
theorem lenLays : Lays.n129 Tryz.prog lenRen where
  mixed := by kernel_rfl
  f129 := by kernel_rfl
  t3 := by kernel_rfl
  a3 := fun _ => by kernel_rfl
  z3 := fun _ => by kernel_rfl
  v3 := fun _ => by kernel_rfl
  t4 := by kernel_rfl
  a4 := fun _ => by kernel_rfl
  z4 := fun _ => by kernel_rfl
  v4 := fun _ => by kernel_rfl
  t5 := by kernel_rfl
  a5 := fun _ => by kernel_rfl
  z5 := fun _ => by kernel_rfl
  v5 := fun _ => by kernel_rfl
  t9 := by kernel_rfl
  a9 := fun _ => by kernel_rfl
  z9 := fun _ => by kernel_rfl
  v9 := fun _ => by kernel_rfl
  t46 := by kernel_rfl
  a46 := fun _ => by kernel_rfl
  z46 := fun _ => by kernel_rfl
  v46 := fun _ => by kernel_rfl
  t53 := by kernel_rfl
  a53 := fun _ => by kernel_rfl
  z53 := fun _ => by kernel_rfl
  v53 := fun _ => by kernel_rfl

theorem len64 (x : Int) (w : World) (h0 : 0 ≤ x) (h1 : x < 18446744073709551616) :
    Calls Tryz.prog 66 #[.int .u64 x] w fun e w' => e = .returned (.int .i64 (Lib.bitLen x.toNat)) ∧ w' = w :=
  Any.bits_Len64 lenLays x w h0 (by omega)

theorem bitLen_small (x : Nat) (h : x < 18446744073709551616) : Lib.bitLen x ≤ 64 := Lib.bitLen_le x 64 (Nat.le_refl _) (by simpa using h)

end Go.Proofs.YtigmhnlcmhpepaaGreatDoor

namespace Go.Proofs.YtigmhnlcmhpepaaGreatDoor
open Go.RowKit Go.Deep

/-- The number of binary digits. -/
def blen (zs : List Int) : Int := if Nm.tsize zs = 0 then 0 else ((Nm.tsize zs : Int) - 1) * 64 + Lib.bitLen (zs.getD (Nm.tsize zs - 1) 0).toNat

theorem blen_trim (zs : List Int) (t : Nat) (ht : Nm.tsize zs = t + 1) : blen zs = (t : Int) * 64 + Lib.bitLen ((Nm.trim zs).getD t 0).toNat := by
  have e : (Nm.trim zs).getD t 0 = zs.getD t 0 := by rw [Nm.trim, Nm.getD_take, if_pos (by omega)]
  rw [blen, if_neg (by omega), e, ht]
  simp

theorem retI {a b : Int} (h : a = b) : Ending.returned (.int .i64 a) = .returned (.int .i64 b) := by rw [h]

set_option maxRecDepth 100000 in
set_option maxHeartbeats 1000000 in
theorem bitLen_any (p : Option Addr) (n cap : Nat) (zs : List Int) (w : World) (ha : Arg w p n cap zs) :
    Calls Tryz.prog 176 #[.slice p n cap] w fun e w' => e = .returned (.int .i64 (blen zs)) ∧ w' = w := by
  obtain ⟨a1, a2, a3, a4, a5⟩ := ha
  have tl := Nm.tsize_le zs
  by_cases h0 : Nm.tsize zs = 0
  · have h0' : ((Nm.tsize zs : Int) == 0) = true := by simp [h0]
    have E : Hid (blen zs = 0) := by rw [Hid, blen, if_pos h0]
    clear h0 tl
    go_enter Tryz.func176, Tryz.ntmps176
    go_wp2_with fail
    refine (trimmed_any p n cap zs _ a1 a2 (by omega) a4).mono ?_
    rintro e w' ⟨rfl, rfl⟩
    go_wp2_with fail
    go_ret
    exact ⟨retI E.out.symm, rfl⟩
  · obtain ⟨t, ht⟩ : ∃ t, Nm.tsize zs = t + 1 := ⟨Nm.tsize zs - 1, by omega⟩
    have T1 := trimmed_any p n cap zs w a1 a2 (by omega) a4
    rw [ht] at T1
    have h0' : ((t : Int) + 1 == 0) = false := by rw [beq_eq_false_iff_ne]; omega
    have E := hid (blen_trim zs t ht)
    have L := hid ((Nm.trim_length zs).trans ht)
    obtain ⟨b, off, rfl, hc⟩ : ∃ b off, p = some ⟨b, off, none⟩ ∧ w.cell? ⟨b, off + t, none⟩ = some (.int .u64 ((Nm.trim zs).getD t 0)) := by
      have l := L.out
      rcases a4.trim with h | ⟨b, off, hp, h⟩
      · rw [h] at l
        simp at l
      · exact ⟨b, off, hp, h t (by omega)⟩
    obtain ⟨x, X⟩ : ∃ x, Hid (x = (Nm.trim zs).getD t 0) := ⟨_, rfl⟩
    rw [← X.out] at hc
    have hx0 := a5.trim.at t
    rw [← X.out] at hx0
    obtain ⟨hx0, hx1⟩ := hx0
    have E2 : Hid (blen zs = (t : Int) * 64 + Lib.bitLen x.toNat) := by rw [Hid, X.out]; exact E.out
    obtain ⟨l, hl⟩ : ∃ l, Lib.bitLen x.toNat = l := ⟨_, rfl⟩
    have hl64 : l ≤ 64 := by rw [← hl]; exact bitLen_small _ (by omega)
    have hl64' : (l : Int) ≤ 64 := by omega
    have L64 := len64 x w hx0 hx1
    rw [hl] at L64 E2
    have HT := hid T1
    have HL := hid L64
    have ht44 : (t : Int) < 17592186044416 := by omega
    clear T1 L64 hl E X h0 ht tl a1 a2 a4 a5 L
    go_enter Tryz.func176, Tryz.ntmps176
    go_wp2_with fail
    refine HT.out.mono ?_
    rintro e w' ⟨rfl, rfl⟩
    go_wp2_with fail
    refine HL.out.mono ?_
    rintro e w' ⟨rfl, rfl⟩
    go_wp2_with fail
    go_ret
    exact ⟨retI E2.out.symm, rfl⟩
end Go.Proofs.YtigmhnlcmhpepaaGreatDoor

namespace Go.Proofs.YtigmhnlcmhpepaaGreatDoor
open Go.RowKit Go.Deep

theorem chain {B : Nat} {w w1 w2 : World} (h : Below B w w1) (k : Below w1.heap.size w1 w2) (hB : B ≤ w.heap.size) : Below B w w2 := h.trans (k.mono (by have := h.size; omega))

theorem Arg.tl {w : World} {p : Option Addr} {n cap : Nat} {zs : List Int} (h : Arg w p n cap zs) : Nm.tsize zs ≤ n := by have := Nm.tsize_le zs; have := h.1; omega

/-- The number of an answer's limbs, by the number itself. -/
theorem Ans.len {B : Nat} {w : World} {p : Option Addr} {ys zs : List Int} {n : Int} (h : Ans B w p ys n) (hz : Nm.Limbs zs) (hv : n = Nm.val zs) : ys.length = Nm.tsize zs := by
  rw [← h.2.2.1]
  exact Nm.tsize_congr h.2.1 hz (h.2.2.2.1.trans hv)
end Go.Proofs.YtigmhnlcmhpepaaGreatDoor

namespace Go.Proofs.YtigmhnlcmhpepaaGreatDoor
open Go.RowKit Go.Deep

/-- What BitLen tells. -/
theorem blen_is (zs : List Int) (hz : Nm.Limbs zs) : ∃ L : Nat, blen zs = (L : Int) ∧ Nm.BLen (Nm.val zs) L ∧ L ≤ 64 * Nm.tsize zs ∧ (0 < Nm.tsize zs → 64 * Nm.tsize zs < L + 64) := by
  by_cases h0 : Nm.tsize zs = 0
  · have hv := (Nm.tsize_zero_iff hz).1 h0
    exact ⟨0, by rw [blen, if_pos h0]; rfl, ⟨by rw [hv]; decide, fun _ => rfl, fun h => by omega⟩, by omega, fun h => by omega⟩
  · obtain ⟨t, ht⟩ : ∃ t, Nm.tsize zs = t + 1 := ⟨Nm.tsize zs - 1, by omega⟩
    have hx := hz.at t
    have hx0 := Nm.tsize_top zs (by omega)
    rw [show Nm.tsize zs - 1 = t by omega] at hx0
    obtain ⟨n, hn⟩ := Int.eq_ofNat_of_zero_le hx.1
    have hb := Lib.bitLenAux_bounds 64 n (by simpa using (show n < 18446744073709551616 by omega)) (by omega)
    rw [show Lib.bitLenAux 64 n = Lib.bitLen n from rfl] at hb
    have hs := bitLen_small n (by omega)
    obtain ⟨l, hl⟩ : ∃ l, Lib.bitLen n = l := ⟨_, rfl⟩
    rw [hl] at hb hs
    have e1 : ((2 ^ (l - 1) : Nat) : Int) = (2 : Int) ^ (l - 1) := by simp
    have e2 : ((2 ^ l : Nat) : Int) = (2 : Int) ^ l := by simp
    refine ⟨64 * t + l, ?_, Nm.blen_at zs t l hz ht hb.1 (by omega) (by omega), by omega, fun _ => by omega⟩
    rw [blen, if_neg h0, show Nm.tsize zs - 1 = t by omega, hn, Int.toNat_natCast, hl, ht]
    omega
end Go.Proofs.YtigmhnlcmhpepaaGreatDoor

namespace Go.Proofs.YtigmhnlcmhpepaaGreatDoor
open Go.RowKit Go.Deep

/-- The kit's contract for TrailingZeros64, laid at this program. -/
def tzRen : Go.Shelf.Ren := ⟨fun _ => 188, fun t => if t = 22 then 22 else if t = 25 then 102 else if t = 54 then 279 else if t = 5 then 5 else if t = 4 then 4 else if t = 0 then 0 else 3, fun _ => 5⟩
theorem tzLays : Lays7.n29 Tryz.prog tzRen where
  mixed := by kernel_rfl
  f29 := by kernel_rfl
  t0 := by kernel_rfl
  a0 := fun _ => by kernel_rfl
  z0 := fun _ => by kernel_rfl
  v0 := fun _ => by kernel_rfl
  i0 := by kernel_rfl
  t3 := by kernel_rfl
  a3 := fun _ => by kernel_rfl
  z3 := fun _ => by kernel_rfl
  v3 := fun _ => by kernel_rfl
  i3 := by kernel_rfl
  t4 := by kernel_rfl
  a4 := fun _ => by kernel_rfl
  z4 := fun _ => by kernel_rfl
  v4 := fun _ => by kernel_rfl
  i4 := by kernel_rfl
  t5 := by kernel_rfl
  a5 := fun _ => by kernel_rfl
  z5 := fun _ => by kernel_rfl
  v5 := fun _ => by kernel_rfl
  i5 := by kernel_rfl
  t22 := by kernel_rfl
  a22 := fun _ => by kernel_rfl
  z22 := fun _ => by kernel_rfl
  v22 := fun _ => by kernel_rfl
  i22 := by kernel_rfl
  t25 := by kernel_rfl
  a25 := fun _ => by kernel_rfl
  z25 := fun _ => by kernel_rfl
  v25 := fun _ => by kernel_rfl
  i25 := by kernel_rfl
  t54 := by kernel_rfl
  a54 := fun _ => by kernel_rfl
  z54 := fun _ => by kernel_rfl
  g1 := by kernel_rfl

/-- The table that TrailingZeros64 reads. -/
def Tab (w : World) : Prop := TabAt 5 Lib.deBruijn64tab w

theorem Tab.below {w w' : World} (h : Tab w) (hb : Below w.heap.size w w') : Tab w' := by
  intro j hj
  have hc := h j hj
  rw [hb.cell (p := ⟨5, j, none⟩) (cell_lt hc)]
  exact hc

theorem tz64 (x : Int) (w : World) (h0 : 0 < x) (h1 : x < 18446744073709551616) (hT : Tab w) :
    Calls Tryz.prog 188 #[.int .u64 x] w fun e w' => ∃ (t : Nat) (m : Int), e = .returned (.int .i64 t) ∧ t ≤ 63 ∧ Hid (x = 2 ^ t * (2 * m + 1)) ∧ w' = w := by
  obtain ⟨n, rfl⟩ := Int.eq_ofNat_of_zero_le (show 0 ≤ x by omega)
  refine (Any7.bits_TrailingZeros64 tzLays n (by omega) w (fun _ => hT)).mono ?_
  rintro e w' ⟨rfl, rfl⟩
  obtain ⟨m, hm, hlt⟩ := Lib.ctzFrom_spec 64 n (by omega) (by simpa using (show n < 18446744073709551616 by omega))
  refine ⟨Lib.ctzFrom 64 n, m, by rw [Lib.ctz, if_neg (by omega)], by omega, ?_, rfl⟩
  show (n : Int) = _
  have e : ((2 ^ Lib.ctzFrom 64 n * (2 * m + 1) : Nat) : Int) = 2 ^ Lib.ctzFrom 64 n * (2 * (m : Int) + 1) := by simp
  rw [← e, ← hm]

set_option maxHeartbeats 1000000 in
theorem trail_any (p : Option Addr) (n cap : Nat) (zs : List Int) (w : World) (ha : Arg w p n cap zs) (hT : Tab w) :
    Calls Tryz.prog 304 #[.slice p n cap] w fun e w' => ∃ t : Nat, e = .returned (.int .i64 t) ∧ Nm.Trl (Nm.val zs) t ∧ w' = w := by
  obtain ⟨a1, a2, a3, a4, a5⟩ := ha
  rcases a4 with rfl | ⟨b, off, rfl, hcell⟩
  · have hn0 : n = 0 := by simpa using a1.symm
    subst hn0
    go_enter Tryz.func304, Tryz.ntmps304
    go_wp2
    refine wp_loop_rounds 1 ?_
    rw [rounds_succ]
    go_wp2
    go_ret
    exact ⟨0, rfl, .inl ⟨rfl, rfl⟩, rfl⟩
  · have H := hid a1
    have HC := hid hcell
    have HT := hid hT
    clear a1 hcell hT
    go_enter Tryz.func304, Tryz.ntmps304
    go_wp2
    go_loop [7] (fun t => ∃ k : Nat, k ≤ n ∧ t = .int .i64 k ∧ Hid (∀ j, j < k → zs.getD j 0 = 0)) (fun t => n - (intOf t).toNat)
    case atStart => exact ⟨0, Nat.zero_le _, rfl, fun j hj => by omega⟩
    case round =>
      obtain ⟨k, hk, rfl, hz⟩ := hrel
      by_cases hlt : k < n
      · obtain ⟨x, hx, X⟩ : ∃ x, w.cell? ⟨b, off + k, none⟩ = some (.int .u64 x) ∧ Hid (x = zs.getD k 0) := ⟨_, HC.out k (by have := H.out; omega), rfl⟩
        by_cases hx0 : x = 0
        · have hx0' : (x != 0) = false := by simp [hx0]
          have X0 := hid hx0
          clear hx0
          go_wp2
          go_round
          case rel =>
            refine ⟨k + 1, by omega, by go_num, fun i hi => ?_⟩
            by_cases e : i = k
            · subst e; rw [← X.out]; exact X0.out
            · exact hz.out i (by omega)
          case measure => simp [intOf]; omega
        · have hx0' : (x != 0) = true := by simp [hx0]
          have hxb := a5.at k
          rw [← X.out] at hxb
          have hx1 : 0 < x := by omega
          obtain ⟨hxa, hxb⟩ := hxb
          go_wp2_with fail
          refine (tz64 x _ hx1 hxb HT.out).mono ?_
          rintro e w' ⟨t, m, rfl, ht, E, rfl⟩
          go_wp2_with fail
          go_ret
          refine ⟨64 * k + t, retI (by omega), Nm.trl_at zs k t m (by have := H.out; omega) hz.out (by rw [← X.out]; exact E.out) ht, rfl⟩
      · have E : Hid (Nm.val zs = 0) := by
          have h0 : Nm.tsize zs = 0 := Nm.tsize_unique zs 0 (fun j _ => by
            by_cases hj : j < k
            · exact hz.out j hj
            · simp [List.getD, List.getElem?_eq_none (show zs.length ≤ j by have := H.out; omega)]) (.inl rfl)
          exact (Nm.tsize_zero_iff a5).1 h0
        go_wp2
        go_ret
        exact ⟨0, rfl, .inl ⟨E.out, rfl⟩, rfl⟩

end Go.Proofs.YtigmhnlcmhpepaaGreatDoor

namespace Go.Proofs.YtigmhnlcmhpepaaGreatDoor
open Go Go.RowKit Go.Deep

theorem tab_laid : (Rows.laid_math_bits_deBruijn64tab : DataW Unit) = Lib.tabData .u8 (List.map Int.ofNat Lib.deBruijn64tab) := by kernel_rfl

theorem tab_of {W : World} {rest : List (String × DataW Unit)} (h : laidMet Tryz.prog (("math/bits.deBruijn64tab", Rows.laid_math_bits_deBruijn64tab) :: rest) W) : Tab W := by
  rw [tab_laid] at h
  have ht := Lib.tabIs_of_head (g := 5) (t := 279) (e := 5) (n := 64) (k := .u8) (zs := List.map Int.ofNat Lib.deBruijn64tab) (by kernel_rfl) (by kernel_rfl) Tryz.underlying279 Tryz.underlying5 (by kernel_rfl) (by kernel_rfl) h
  intro j hj
  have hl : (List.map Int.ofNat Lib.deBruijn64tab).length = Lib.deBruijn64tab.length := by simp
  rw [ht.cell (g := 5) (by kernel_rfl) j (by omega)]
  simp [List.getD, hj]

end Go.Proofs.YtigmhnlcmhpepaaGreatDoor

namespace Go.Proofs.YtigmhnlcmhpepaaGreatDoor
open Go Go.RowKit Go.Deep

theorem laid_tail12 {P : Program} {W : World} {x : String × DataW Unit} {rest : List (String × DataW Unit)} (h : laidMet P (x :: rest) W) : laidMet P rest W := by
  obtain ⟨ps, ⟨g, t, cs, fuel, p, q, _, _, _, _, hr, rfl⟩, hn, hc⟩ := h
  exact ⟨q, hr, (List.nodup_append.1 hn).2.1, fun b off hm => hc b off (List.mem_append_right _ hm)⟩

theorem pow_laid12 : (Rows.laid_internal_strconv_uint64pow10 : DataW Unit) = Lib.tabData .u64 Lib.pow10Tab := by kernel_rfl

theorem tables12 {W : World} {a : String × DataW Unit} {rest : List (String × DataW Unit)} (h : laidMet Tryz.prog (a :: ("math/bits.deBruijn64tab", Rows.laid_math_bits_deBruijn64tab) :: ("internal/strconv.uint64pow10", Rows.laid_internal_strconv_uint64pow10) :: rest) W) : Tab W ∧ Tab10 W := by
  have h1 := laid_tail12 h
  have h2 := laid_tail12 h1
  rw [pow_laid12] at h2
  exact ⟨tab_of h1, Lib.tabIs_of_head (g := 1) (t := 242) (e := 22) (n := 20) (by kernel_rfl) (by kernel_rfl) Tryz.underlying242 Tryz.underlying22 (by kernel_rfl) (by kernel_rfl) h2⟩
end Go.Proofs.YtigmhnlcmhpepaaGreatDoor
