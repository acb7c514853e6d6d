/-
  Texts put together: NFrom, NRead, FNat, FLawA, FWorks.
-/
import Derived.Test.YtbdbpjghmejfjaaDoorRG
import Derived.OwnWalk
import Derived.Test.YtbdbpjghmejfjaaDoorNDv
import Derived.Test.YtbdbpjghmejfjaaDoorRC
import Derived.Test.YtbdbpjghmejfjaaDoorWalk5
import Derived.Test.YtbdbpjghmejfjaaDoorRF
import Derived.BigQuiet
namespace Go.Proofs.YtbdbpjghmejfjaaDoor
open Go.RowKit Go.Deep

/-- What FromBase tells. -/
inductive FromIs (xs : List Int) (B : Int) (w0 w' : World) : Option Addr → List Int → Int → Int → Prop
  | base : (B < 2 ∨ 36 < B) → FromIs xs B w0 w' none [] 0 32
  | empty : 2 ≤ B → B ≤ 36 → xs = [] → FromIs xs B w0 w' none [] 0 30
  | digit (t : Nat) : 2 ≤ B → B ≤ 36 → t < xs.length → (∀ i, i < t → wv (xs.getD i 0) < B) → B ≤ wv (xs.getD t 0) → FromIs xs B w0 w' none [] (t : Int) 31
  | big : 2 ≤ B → B ≤ 36 → (∀ i, i < xs.length → wv (xs.getD i 0) < B) → xs ≠ [] → Nm.pw 4096 ≤ Dn.tv B 0 (xs.map wv) → FromIs xs B w0 w' none [] 0 2
  | ok (r : Option Addr) (os : List Int) : 2 ≤ B → B ≤ 36 → (∀ i, i < xs.length → wv (xs.getD i 0) < B) → xs ≠ [] → Dn.tv B 0 (xs.map wv) < Nm.pw 4096 → Ans w0.heap.size w' r os (Dn.tv B 0 (xs.map wv)) → FromIs xs B w0 w' r os 0 0

def FromTold (xs : List Int) (B : Int) (w : World) (e : Ending) (w' : World) : Prop :=
  ∃ r os at_ E, e = .returned (.tuple #[.slice r (List.length os) (List.length os), .int .i64 at_, .int .i64 E]) ∧ FromIs xs B w w' r os at_ E ∧ Below w.heap.size w w'

set_option maxRecDepth 100000 in
set_option maxHeartbeats 4000000 in
theorem fromBase_any (s : ByteArray) (xs : List Int) (B : Int) (w : World) (hs : Str s xs) (hn : xs.length ≤ 140737488355328) (hB0 : -9223372036854775808 ≤ B) (hB1 : B ≤ 9223372036854775807) :
    Calls Tryd.prog 19 #[.string s, .int .i64 B] w fun e w' => FromTold xs B w e w' := by
  by_cases h1 : B < 2 ∨ 36 < B
  · have F : Hid (FromTold xs B w (.returned (.tuple #[.slice none 0 0, .int .i64 0, .int .i64 32])) w) := ⟨none, [], _, _, rfl, .base h1, Below.refl _ _⟩
    clear hs hn
    rcases h1 with h1 | h1
    · go_enter Tryd.func19, Tryd.ntmps19
      go_wp2_with fail
      go_ret3
      exact F.out
    · go_enter Tryd.func19, Tryd.ntmps19
      go_wp2_with fail
      go_ret3
      exact F.out
  have h2 : 2 ≤ B := by omega
  have h36 : B ≤ 36 := by omega
  by_cases h3 : xs = []
  · have F : Hid (FromTold xs B w (.returned (.tuple #[.slice none 0 0, .int .i64 0, .int .i64 30])) w) := ⟨none, [], _, _, rfl, .empty h2 h36 h3, Below.refl _ _⟩
    have hs0 : s = ⟨#[]⟩ := hs.inj (by rw [h3]; rfl)
    subst hs0
    clear hs hn h1 h3
    go_enter Tryd.func19, Tryd.ntmps19
    go_wp2_with fail
    go_ret3
    exact F.out
  have e1 : s.toList ≠ [] := by
    intro c
    apply h3
    rw [ByteArray.toList_eq] at c
    rw [← hs, c]
    rfl
  have e2 : (s.toList == []) = false := by rw [beq_eq_false_iff_ne]; exact e1
  have e3 : s.toList.isEmpty = false := by rw [List.isEmpty_eq_false_iff]; exact e1
  have WR := hid (wrong_any s xs xs.length B w hs rfl hn)
  have HS := hid hs
  have HN := hid hn
  have H3 := hid h3
  clear hs hn h1 h3
  go_enter Tryd.func19, Tryd.ntmps19
  go_wp2_with fail
  refine WR.out.mono ?_
  rintro e w' ⟨⟨r, rfl, k⟩, rfl⟩
  clear WR
  cases k with
  | here t a1 a2 a3 =>
    have F : Hid (FromTold xs B w' (.returned (.tuple #[.slice none 0 0, .int .i64 (t : Int), .int .i64 31])) w') := ⟨none, [], _, _, rfl, .digit t h2 h36 a1 a2 a3, Below.refl _ _⟩
    have ht : (0 : Int) ≤ (t : Int) := by omega
    clear a1 a2 a3
    go_wp2_with fail
    go_ret3
    exact F.out
  | none a1 =>
    have NA := hid (natural_any s xs B w' HS.out HN.out h2 h36 a1)
    have HA := hid a1
    clear a1
    go_wp2_with fail
    refine NA.out.mono ?_
    rintro e w1 ⟨h | h, d1⟩
    · obtain ⟨k1, r, os, rfl, A1⟩ := h
      have F : Hid (FromTold xs B w' (.returned (.tuple #[.slice r (List.length os) (List.length os), .int .i64 0, .int .i64 0])) w1) := ⟨r, os, _, _, rfl, .ok r os h2 h36 HA.out H3.out k1 A1, d1⟩
      clear k1 A1 d1 NA
      go_wp2_with fail
      go_ret3
      exact F.out
    · obtain ⟨k1, rfl⟩ := h
      have F : Hid (FromTold xs B w' (.returned (.tuple #[.slice none 0 0, .int .i64 0, .int .i64 2])) w1) := ⟨none, [], _, _, rfl, .big h2 h36 HA.out H3.out k1, d1⟩
      clear k1 d1 NA
      go_wp2_with fail
      go_ret3
      exact F.out
end Go.Proofs.YtbdbpjghmejfjaaDoor

namespace Go.Proofs.YtbdbpjghmejfjaaDoor
open Go.RowKit Go.Deep

theorem wv_map {xs : List Int} (h : Digs xs) : xs.map wv = xs.map (fun d => d - 48) := List.map_congr_left (fun x hx => wv_dig (h x hx))

set_option maxRecDepth 100000 in
theorem read_any (s : ByteArray) (xs : List Int) (w : World) (hs : Str s xs) (hl : xs.length ≤ 140737488355328) (hd : Digs xs) (h0 : xs ≠ []) (hv : dv xs < Nm.pw 4096) :
    Calls Tryd.prog 9 #[.string s] w fun e w' => ∃ r os, e = .returned (.tuple #[.slice r (List.length os) (List.length os), .int .i64 0, .int .i64 0]) ∧ Ans w.heap.size w' r os (dv xs) ∧ Below w.heap.size w w' := by
  have FB : Hid (Calls Tryd.prog 19 #[.string s, .int .i64 10] w fun e w' => ∃ r os, e = .returned (.tuple #[.slice r (List.length os) (List.length os), .int .i64 0, .int .i64 0]) ∧ Ans w.heap.size w' r os (dv xs) ∧ Below w.heap.size w w') := by
    refine (fromBase_any s xs 10 w hs hl (by omega) (by omega)).mono ?_
    rintro e w' ⟨r, os, at_, E, rfl, h, d⟩
    have ev : Dn.tv 10 0 (xs.map wv) = dv xs := by rw [wv_map hd]; rfl
    cases h with
    | base h => omega
    | empty _ _ h => exact absurd h h0
    | digit t _ _ h1 _ h3 =>
      have := digs_at hd t h1
      rw [wv_dig this] at h3
      omega
    | big _ _ _ _ h =>
      rw [ev] at h
      exact absurd hv (Int.not_lt.2 h)
    | ok r os _ _ _ _ _ h =>
      rw [ev] at h
      exact ⟨r, os, rfl, h, d⟩
  clear hs hl hd h0 hv
  go_enter Tryd.func9, Tryd.ntmps9
  go_wp2_with fail
  refine FB.out.mono ?_
  rintro e w1 ⟨r, os, rfl, A1, d1⟩
  have F := hid (And.intro A1 d1)
  clear A1 d1 FB
  go_wp2_with fail
  go_ret3
  exact ⟨r, os, rfl, F.out⟩

end Go.Proofs.YtbdbpjghmejfjaaDoor

namespace Go.Proofs.YtbdbpjghmejfjaaDoor
open Go Go.RowKit Go.Deep

/-- A number in its limbs, which fits. -/
structure Nn (w : World) (p : Option Addr) (os : List Int) (x : Int) : Prop where
  ans : ∃ B, Ans B w p os x
  fit : x < Nm.pw 4096

theorem Nn.of {B : Nat} {w : World} {p : Option Addr} {os : List Int} {x : Int} (h : Ans B w p os x) (hx : x < Nm.pw 4096) : Nn w p os x := ⟨⟨B, h⟩, hx⟩
theorem Nn.arg {w : World} {p : Option Addr} {os : List Int} {x : Int} (h : Nn w p os x) : Arg w p os.length os.length os := by obtain ⟨B, A⟩ := h.ans; exact A.argT h.fit
theorem Nn.ts {w : World} {p : Option Addr} {os : List Int} {x : Int} (h : Nn w p os x) : Nm.tsize os ≤ 4096 := by obtain ⟨B, A⟩ := h.ans; exact A.tsT h.fit
theorem Nn.val {w : World} {p : Option Addr} {os : List Int} {x : Int} (h : Nn w p os x) : Nm.val os = x := by obtain ⟨B, A⟩ := h.ans; exact A.2.2.2.1
theorem Nn.on {w w' : World} {p : Option Addr} {os : List Int} {x : Int} (h : Nn w p os x) (hB : Below w.heap.size w w') : Nn w' p os x := by obtain ⟨B, A⟩ := h.ans; exact ⟨⟨B, A.below hB (Nat.le_refl _)⟩, h.fit⟩

/-- What a call tells that makes a number. -/
def NnTold (x : Int) (w : World) (e : Ending) (w' : World) : Prop := ∃ r os, e = .returned (.tuple #[.slice r (List.length os) (List.length os), .int .i64 0]) ∧ Nn w' r os x ∧ Below w.heap.size w w'

theorem nmul_any {w : World} {p q : Option Addr} {os zs : List Int} {x y : Int} (A : Nn w p os x) (C : Nn w q zs y) (h : x * y < Nm.pw 4096) :
    Calls Tryd.prog 11 #[.slice p (List.length os) (List.length os), .slice q (List.length zs) (List.length zs)] w fun e w' => NnTold (x * y) w e w' := by
  refine (mul_ok p q _ _ _ _ os zs w A.arg C.arg A.ts C.ts (by rw [A.val, C.val]; exact h)).mono ?_
  rintro e w' ⟨r, ys, rfl, R, hB⟩
  rw [A.val, C.val] at R
  exact ⟨r, ys, rfl, .of R h, hB⟩

theorem nshl_any {w : World} {p : Option Addr} {os : List Int} {x k : Int} {n : Nat} (A : Nn w p os x) (hk : k = (n : Int)) (h : x * 2 ^ n < Nm.pw 4096) :
    Calls Tryd.prog 13 #[.slice p (List.length os) (List.length os), .int .i64 k] w fun e w' => NnTold (x * 2 ^ n) w e w' := by
  refine (fshl_any p _ _ os k n w A.arg A.ts hk (by rw [A.val]; exact h)).mono ?_
  rintro e w' ⟨r, ys, rfl, R, hB⟩
  rw [A.val] at R
  exact ⟨r, ys, rfl, .of R h, hB⟩


theorem ncmp_any {w : World} {p q : Option Addr} {os zs : List Int} {x y : Int} (A : Nn w p os x) (C : Nn w q zs y) :
    Calls Tryd.prog 14 #[.slice p (List.length os) (List.length os), .slice q (List.length zs) (List.length zs)] w fun e w' => e = .returned (.int .i64 (cmpI x y)) ∧ Below w.heap.size w w' := by
  have := cmp_any p q _ _ _ _ os zs w A.arg C.arg
  rw [A.val, C.val] at this
  exact this


theorem nread_any {s : ByteArray} {xs : List Int} (w : World) (hs : Str s xs) (hl : xs.length ≤ 20000) (hd : Digs xs) (h0 : xs ≠ []) :
    Calls Tryd.prog 9 #[.string s] w fun e w' => ∃ r os, e = .returned (.tuple #[.slice r (List.length os) (List.length os), .int .i64 0, .int .i64 0]) ∧ Nn w' r os (dv xs) ∧ Below w.heap.size w w' := by
  have hv : dv xs < Nm.pw 4096 := Int.lt_trans (dv_bd hd).2 (fp10_pw hl)
  refine (read_any s xs w hs (by omega) hd h0 hv).mono ?_
  rintro e w' ⟨r, os, rfl, A, hB⟩
  exact ⟨r, os, rfl, .of A hv, hB⟩

theorem npow10_any (k : Int) (n : Nat) (w : World) (hk : k = (n : Int)) (hn : n ≤ 20000) :
    Calls Tryd.prog 10 #[.int .i64 k] w fun e w' => NnTold (10 ^ n) w e w' := by
  refine (fpow10_ok k n w hk hn).mono ?_
  rintro e w' ⟨r, os, rfl, A, hB⟩
  exact ⟨r, os, rfl, .of A (fp10_pw hn), hB⟩

theorem u64_pw {x : Int} (h : x < 18446744073709551616) : x < Nm.pw 4096 :=
  Int.lt_trans (show x < 10 ^ 20 by rw [show (10 : Int) ^ 20 = 100000000000000000000 by decide]; omega) (fp10_pw (by omega))

theorem nfrom_any (x : Int) (w : World) (h0 : 0 ≤ x) (h1 : x < 18446744073709551616) :
    Calls Tryd.prog 24 #[.int .u64 x] w fun e w' => ∃ r os, e = .returned (.slice r (List.length os) (List.length os)) ∧ Nn w' r os x ∧ Below w.heap.size w w' := by
  refine (fromUint_any x w h0 h1).mono ?_
  rintro e w' ⟨r, os, rfl, A, hB⟩
  exact ⟨r, os, rfl, .of A (u64_pw h1), hB⟩

/-- A literal of one limb. -/
theorem nlit (w : World) {x : Int} (h0 : 0 < x) (h1 : x < 18446744073709551616) : Nn (w.alloc (.cells #[.int .u64 x] 24)) (some ⟨w.heap.size, 0, none⟩) [x] x :=
  .of (B := w.heap.size) ⟨(Own.alloc w [x]).lies, limb_one ⟨by omega, h1⟩, by simp [Nm.tsize]; omega, by simp [Nm.val], fun a h => by cases h; exact Nat.le_refl _⟩ (u64_pw h1)
end Go.Proofs.YtbdbpjghmejfjaaDoor

namespace Go.Proofs.YtbdbpjghmejfjaaDoor
open Go Go.RowKit Go.Deep

theorem fnt_abs (d : Int) : decide (d % 9223372036854775808 < 9218868437227405312) = Ie.fnt d := by
  unfold Ie.fnt Ie.cls Ie.fld
  by_cases h : d % 9223372036854775808 < 9218868437227405312
  · rw [decide_eq_true h]
    symm
    rw [decide_eq_true_iff]
    split
    · split <;> omega
    · rw [if_neg (by omega)]; omega
  · rw [decide_eq_false h]
    symm
    rw [decide_eq_false_iff_not]
    rw [if_neg (by omega), if_pos (by omega)]
    split <;> omega

set_option maxRecDepth 100000 in
theorem lfinite_any (d : Int) (w : World) (h0 : 0 ≤ d) (h1 : d < 18446744073709551616) :
    Calls Tryd.prog 8 #[.int .u64 d] w fun e w' => e = .returned (.bool (Ie.fnt d)) ∧ w' = w := by
  have B := Ib.sign_andNot d h0 h1
  have E := hid (fnt_abs d)
  generalize d % 9223372036854775808 = a at *
  clear h0 h1
  go_enter Tryd.func8, Tryd.ntmps8
  go_wp2_with fail
  go_ret
  exact ⟨fretB E.out, rfl⟩

namespace Fx
def top (d : Int) (n : Nat) : Int := Ie.dm d * 10 ^ n * 2 ^ (Ie.de d).toNat
def dn (d : Int) : Nat := (-(Ie.de d)).toNat
theorem top_room {m : Int} {n k : Nat} (m0 : 0 ≤ m) (m1 : m < 9007199254740992) : m * 10 ^ n < 10 ^ (20 + n) ∧ m * 10 ^ n * 2 ^ k < 10 ^ (20 + n + k) := by
  have a1 : m * 10 ^ n ≤ 9007199254740992 * 10 ^ n := Int.mul_le_mul_of_nonneg_right (by omega) (Int.le_of_lt (p_pos n))
  have a2 : (10 : Int) ^ (20 + n) = 100000000000000000000 * 10 ^ n := by rw [Int.pow_add]; rfl
  have a3 := p_pos n
  have b : m * 10 ^ n < 10 ^ (20 + n) := by omega
  refine ⟨b, ?_⟩
  rw [Int.pow_add _ (20 + n) k]
  have c1 := f2_10 k
  have c0 : (0 : Int) < 2 ^ k := Int.pow_pos (by omega)
  have c2 : m * 10 ^ n * 2 ^ k < 10 ^ (20 + n) * 2 ^ k := Int.mul_lt_mul_of_pos_right b c0
  have c3 : (10 : Int) ^ (20 + n) * 2 ^ k ≤ 10 ^ (20 + n) * 10 ^ k := Int.mul_le_mul_of_nonneg_left c1 (Int.le_of_lt (p_pos _))
  omega
end Fx

def ScaledTold (d : Int) (n : Nat) (w : World) (e : Ending) (w' : World) : Prop :=
  ∃ r os, e = .returned (.tuple #[.slice r (List.length os) (List.length os), .int .i64 (Fx.dn d : Int)]) ∧ Nn w' r os (Fx.top d n) ∧ Below w.heap.size w w'

set_option maxRecDepth 100000 in
set_option maxHeartbeats 4000000 in
theorem scaled_any (d : Int) (n : Nat) (w : World) (h0 : 0 ≤ d) (h1 : d < 18446744073709551616) (hf : Ie.fnt d = true) (hn : n ≤ 5000) :
    Calls Tryd.prog 12 #[.int .u64 d, .int .i64 (n : Int)] w fun e w' => ScaledTold d n w e w' := by
  have D := hid (decode_any d w h0 h1)
  obtain ⟨m0, m1, e0, e1, -⟩ := Ie.fdec d (of_decide_eq_true hf)
  have PT := hid (fun wx : World => npow10_any (n : Int) n wx rfl (by omega))
  have FU := hid (fun wx : World => nfrom_any (Ie.dm d) wx m0 (by omega))
  have HR := hid (Fx.top_room (m := Ie.dm d) (n := n) (k := (Ie.de d).toNat) m0 m1)
  have FIN : Hid (∀ (w' : World) (r : Option Addr) (os : List Int) (y : Int), y = (Fx.dn d : Int) → Nn w' r os (Ie.dm d * 10 ^ n * 2 ^ (Ie.de d).toNat) → Below w.heap.size w w' → ScaledTold d n w (.returned (.tuple #[.slice r (List.length os) (List.length os), .int .i64 y])) w') := fun w' r os y hy h hB => ⟨r, os, by rw [hy], h, hB⟩
  unfold Fx.dn at FIN
  simp only [partsOf] at D
  generalize decide (9223372036854775808 ≤ d) = neg at *
  generalize Ie.dm d = m at *
  generalize Ie.de d = x at *
  generalize Ie.cls d = c at *
  clear h0 h1 hf
  have MU : Hid (∀ (wx : World) (p q : Option Addr) (os zs : List Int), Nn wx p os m → Nn wx q zs (10 ^ n) → Calls Tryd.prog 11 #[.slice p (List.length os) (List.length os), .slice q (List.length zs) (List.length zs)] wx fun e w' => NnTold (m * 10 ^ n) wx e w') :=
    fun wx p q os zs A C => nmul_any A C (Int.lt_trans HR.out.1 (fp10_pw (by omega)))
  have SH : Hid (∀ (wx : World) (p : Option Addr) (os : List Int), 0 ≤ x → Nn wx p os (m * 10 ^ n) → Calls Tryd.prog 13 #[.slice p (List.length os) (List.length os), .int .i64 x] wx fun e w' => NnTold (m * 10 ^ n * 2 ^ x.toNat) wx e w') :=
    fun wx p os hx A => nshl_any A (by omega) (Int.lt_trans HR.out.2 (fp10_pw (by omega)))
  have TZ : Hid (x < 0 → m * 10 ^ n * 2 ^ x.toNat = m * 10 ^ n) := fun h => by rw [show x.toNat = 0 by omega, Int.pow_zero, Int.mul_one]
  clear HR
  generalize m * 10 ^ n = M at *
  generalize M * 2 ^ x.toNat = Y at *
  generalize (10 : Int) ^ n = G at *
  go_enter Tryd.func12, Tryd.ntmps12
  go_wp2_with fail
  refine D.out.mono ?_
  rintro e w1 ⟨rfl, hB1⟩
  have HB1 := hid hB1
  clear hB1 D
  go_upto_region 2 with fail
  have hb := HB1.out.trans ((alloc_b w1 (.cells #[.bool neg, .int .i64 c, .int .u64 m, .int .i64 x] 47)).mono HB1.out.size)
  have P := Row4.new w1 47 (.bool neg) (.int .i64 c) (.int .u64 m) (.int .i64 x)
  obtain ⟨SS, KS, CS, BS, MS⟩ := state (fun w' => w'.cell? ⟨w1.heap.size, 2, none⟩ = some (.int .u64 m) ∧ w'.cell? ⟨w1.heap.size, 3, none⟩ = some (.int .i64 x)) w ((Stays.cell _ _).and (Stays.cell _ _))
  have S0 := hid (MS.out _ ⟨P.cells.1.2.2.1, P.cells.1.2.2.2⟩ hb)
  clear P hb HB1 MS
  generalize w1.alloc (.cells #[.bool neg, .int .i64 c, .int .u64 m, .int .i64 x] 47) = wA at *
  generalize w1.heap.size = b at *
  go_wp2_with fail
  refine (PT.out _).mono ?_
  rintro e w2 ⟨q, zs, rfl, A2, B2⟩
  have S2 := hid (KS.out _ _ S0.out B2)
  have HA2 := hid A2
  obtain ⟨p2, p3⟩ := CS.out _ S2.out
  clear A2 B2 S0 PT
  go_wp2_with fail
  refine (FU.out _).mono ?_
  rintro e w3 ⟨p, os, rfl, A3, B3⟩
  have S3 := hid (KS.out _ _ S2.out B3)
  have M3 := hid (MU.out w3 p q os zs A3 (HA2.out.on B3))
  clear A3 B3 S2 HA2 FU MU p2 p3
  obtain ⟨p2, p3⟩ := CS.out _ S3.out
  go_wp2_with fail
  refine M3.out.mono ?_
  rintro e w4 ⟨r, ys, rfl, A4, B4⟩
  have S4 := hid (KS.out _ _ S3.out B4)
  have HA4 := hid A4
  clear A4 B4 S3 M3 p2 p3
  obtain ⟨p2, p3⟩ := CS.out _ S4.out
  by_cases hx : 0 ≤ x
  · have S5 := hid (SH.out w4 r ys hx HA4.out)
    have ZR : Hid (0 = ((-x).toNat : Int)) := by show _ = _; omega
    clear SH TZ
    go_wp2_with fail
    refine S5.out.mono ?_
    rintro e w5 ⟨r5, y5, rfl, A5, B5⟩
    have K := hid (FIN.out w5 r5 y5 0 ZR.out A5 ((BS.out _ S4.out).trans (B5.mono (BS.out _ S4.out).size)))
    clear p2 p3 A5 B5 S5 FIN
    go_wp2_with fail
    go_ret2
    exact K.out
  · have TZ2 := TZ.out (by omega)
    subst TZ2
    have K := hid (fun nq : Nat => FIN.out (w4.drewN nq) r ys (-x) (by omega) (HA4.out.on (below_drewN (Below.refl _ _) nq)) (below_drewN (BS.out _ S4.out) nq))
    clear SH TZ FIN
    go_upto_region 7 with fail
    go_quiet (fail)
    go_wp2_with fail
    go_ret2
    exact K.out _
end Go.Proofs.YtbdbpjghmejfjaaDoor

namespace Go.Proofs.YtbdbpjghmejfjaaDoor
open Go Go.RowKit Go.Deep

set_option maxRecDepth 100000 in
set_option maxHeartbeats 4000000 in
theorem lworks_any (w : World) : Calls Tryd.prog 7 #[] w fun e w' => e = .returned (.bool true) ∧ Below w.heap.size w w' := by
  have RD : Hid (∀ wx : World, Calls Tryd.prog 9 #[.string ⟨#[49, 50, 48]⟩] wx fun e w' => ∃ r os, e = .returned (.tuple #[.slice r (List.length os) (List.length os), .int .i64 0, .int .i64 0]) ∧ Nn w' r os 120 ∧ Below wx.heap.size wx w') :=
    fun wx => nread_any (xs := [49, 50, 48]) wx rfl (by decide) (fun d hd => by simp at hd; omega) (by simp)
  have PT : Hid (∀ wx : World, Calls Tryd.prog 10 #[.int .i64 2] wx fun e w' => NnTold 100 wx e w') := fun wx => npow10_any 2 2 wx rfl (by omega)
  have DC : Hid (∀ wx : World, Calls Tryd.prog 18 #[.int .u64 4593671619917905920] wx fun e w' => e = .returned (.agg #[.bool false, .int .i64 2, .int .u64 4503599627370496, .int .i64 (-55)]) ∧ Below wx.heap.size wx w') := by
    intro wx
    have := decode_any 4593671619917905920 wx (by omega) (by omega)
    exact this
  have MU : Hid (∀ (wx : World) (p q : Option Addr) (os zs : List Int), Nn wx p os 100 → Nn wx q zs 3 → Calls Tryd.prog 11 #[.slice p (List.length os) (List.length os), .slice q (List.length zs) (List.length zs)] wx fun e w' => NnTold 300 wx e w') :=
    fun wx p q os zs A C => nmul_any A C (u64_pw (by omega))
  have LB : Hid (∀ (wx : World) (x : Int), Below wx.heap.size wx (wx.alloc (.cells #[.int .u64 x] 24))) := fun wx x => alloc_b wx _
  go_enter Tryd.func7, Tryd.ntmps7
  go_wp2_with fail
  refine (RD.out _).mono ?_
  rintro e w1 ⟨p1, o1, rfl, A1, B1⟩
  obtain ⟨SS, KS, CS, BS, MS⟩ := state (fun w' => Nn w' p1 o1 120) w (fun _ _ h hB => h.on hB)
  have S1 := hid (MS.out _ A1 B1)
  clear A1 B1 MS RD
  go_wp2_with fail
  refine (PT.out _).mono ?_
  rintro e w2 ⟨p2, o2, rfl, A2, B2⟩
  have S2 := hid (KS.out _ _ S1.out B2)
  have HA2 := hid A2
  clear A2 B2 S1 PT
  go_wp2_with fail
  refine (DC.out _).mono ?_
  rintro e w3 ⟨rfl, B3⟩
  have S3 := hid (KS.out _ _ S2.out B3)
  have HA3 := hid (HA2.out.on B3)
  clear B3 S2 HA2 DC
  go_upto_region 4 with fail
  have R3 := hid (Row4.new w3 47 (.bool false) (.int .i64 2) (.int .u64 4503599627370496) (.int .i64 (-55)))
  have B4 := alloc_b w3 (.cells #[.bool false, .int .i64 2, .int .u64 4503599627370496, .int .i64 (-55)] 47)
  have S4 := hid (KS.out _ _ S3.out B4)
  have HA4 := hid (HA3.out.on B4)
  clear B4 S3 HA3
  generalize w3.alloc (.cells #[.bool false, .int .i64 2, .int .u64 4503599627370496, .int .i64 (-55)] 47) = w4 at *
  generalize w3.heap.size = b at *
  have B5 := alloc_b w4 (.cells #[.int .u64 3] 24)
  have M5 := hid (MU.out _ _ _ _ _ (HA4.out.on B5) (nlit w4 (x := 3) (by omega) (by omega)))
  have S5 := hid (KS.out _ _ S4.out B5)
  have R5 := hid (R3.out.below B5 R3.out.lt)
  clear B5 S4 HA4 R3 MU
  go_wp2_with fail
  refine M5.out.mono ?_
  rintro e w6 ⟨p6, o6, rfl, A6, B6⟩
  have S6 := hid (KS.out _ _ S5.out B6)
  have R6 := hid (R5.out.below B6 R5.out.lt)
  have HA6 := hid A6
  clear A6 B6 S5 R5 M5
  have B7 := alloc_b w6 (.cells #[.int .u64 120] 24)
  have S7 := hid (KS.out _ _ S6.out B7)
  have R7 := hid (R6.out.below B7 R6.out.lt)
  have HA7 := hid (HA6.out.on B7)
  have C7 := hid (ncmp_any (CS.out _ S7.out) (nlit w6 (x := 120) (by omega) (by omega)))
  clear B7 S6 R6 HA6
  go_wp2_with fail
  refine C7.out.mono ?_
  rintro e w8 ⟨rfl, B8⟩
  have S8 := hid (KS.out _ _ S7.out B8)
  have R8 := hid (R7.out.below B8 R7.out.lt)
  have HA8 := hid (HA7.out.on B8)
  clear B8 S7 R7 HA7 C7
  have B9 := alloc_b w8 (.cells #[.int .u64 300] 24)
  have S9 := hid (KS.out _ _ S8.out B9)
  have R9 := hid (R8.out.below B9 R8.out.lt)
  have C9 := hid (ncmp_any (HA8.out.on B9) (nlit w8 (x := 300) (by omega) (by omega)))
  have c7 : cmpI 120 120 = 0 := by decide
  have c9 : cmpI 300 300 = 0 := by decide
  clear B9 S8 R8 HA8
  go_wp2_with fail
  refine C9.out.mono ?_
  rintro e w10 ⟨rfl, B10⟩
  have S10 := hid (KS.out _ _ S9.out B10)
  have R10 := R9.out.below B10 R9.out.lt
  obtain ⟨⟨q0, q1, q2, q3⟩, -⟩ := R10.cells
  clear B10 S9 R9 C9 R10
  go_wp2_with fail
  go_ret
  exact ⟨rfl, BS.out _ S10.out⟩
end Go.Proofs.YtbdbpjghmejfjaaDoor
