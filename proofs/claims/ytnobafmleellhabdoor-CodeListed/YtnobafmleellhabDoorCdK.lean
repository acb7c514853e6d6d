/-
  code: the writer: number, doubles, texts.
-/
import Derived.Test.YtnobafmleellhabDoorCdJ
namespace Go.Proofs.YtnobafmleellhabDoor
open Go Go.RowKit Go.Deep Go.Shelf

theorem cput_any {w : World} {wb : Nat} {L : Ch.L8} (h : WS w wb L) (xs : Ch.L8) (k : Nat) (hk : k = xs.length) (hl : k ≤ 1000000) :
    Calls Tryd.prog 31 #[.pointer (some ⟨wb, 0, none⟩), .slice (some ⟨w.heap.size, 0, none⟩) k k] (w.alloc (.cells (Lib.byteCells xs).toArray 5)) fun e w' => e = .returned (.tuple #[]) ∧ WS w' wb (L ++ xs) ∧ Fk wb w w' := by
  have a := alloc_b w (.cells (Lib.byteCells xs).toArray 5)
  refine (cadd_any (h.on a) xs k hk (Bx.new w _ _) (by have := h.lt; omega) hl).mono ?_
  rintro e w' ⟨rfl, g1, g2⟩
  exact ⟨rfl, g1, (Fk.of a (Nat.le_of_lt h.lt)).trans g2⟩
theorem cput1_any {w : World} {wb : Nat} {L : Ch.L8} (h : WS w wb L) (c : UInt8) (x : Int) (hx : x = (c.toNat : Int)) :
    Calls Tryd.prog 31 #[.pointer (some ⟨wb, 0, none⟩), .slice (some ⟨w.heap.size, 0, none⟩) 1 1] (w.alloc (.cells #[.int .u8 x] 5)) fun e w' => e = .returned (.tuple #[]) ∧ WS w' wb (L ++ [c]) ∧ Fk wb w w' := by
  rw [hx]
  exact cput_any h [c] 1 rfl (by omega)
namespace Cd
def num (n : Nat) : Ch.L8 := if n < 128 then [UInt8.ofNat n] else UInt8.ofNat (n % 128 + 128) :: num (n / 128)
termination_by n
decreasing_by omega
theorem num_lt {n : Nat} (h : n < 128) : num n = [UInt8.ofNat n] := by rw [num, if_pos h]
theorem num_ge {n : Nat} (h : ¬ n < 128) : num n = UInt8.ofNat (n % 128 + 128) :: num (n / 128) := by rw [num, if_neg h]
theorem u8_of {n : Nat} (h : n < 256) : ((UInt8.ofNat n).toNat : Int) = (n : Int) := by rw [UInt8.toNat_ofNat_of_lt' (by show n < 256; omega)]
/-- Numbers in memory. -/
def NI (w : World) (p : Option Addr) (l : List Int) : Prop := ∀ i x, l[i]? = some x → ∃ b off, p = some ⟨b, off, none⟩ ∧ w.cell? ⟨b, off + i, none⟩ = some (.int .u64 x)
theorem NI.below {w w' : World} {p : Option Addr} {l : List Int} {B : Nat} (h : NI w p l) (hB : Below B w w') (hb : w.heap.size ≤ B) : NI w' p l := by
  intro i x hx
  obtain ⟨b, off, hp, c0⟩ := h i x hx
  exact ⟨b, off, hp, by rw [hB.cell (Nat.lt_of_lt_of_le (cell_lt c0) hb)]; exact c0⟩
theorem NI.on {w w' : World} {p : Option Addr} {l : List Int} (h : NI w p l) (hB : Below w.heap.size w w') : NI w' p l := h.below hB (Nat.le_refl _)
def U64 (l : List Int) : Prop := ∀ x ∈ l, 0 ≤ x ∧ x < 18446744073709551616
def by8 (x : Int) (k : Nat) : UInt8 := UInt8.ofNat (x.toNat / 256 ^ k % 256)
def dbl (x : Int) : Ch.L8 := [by8 x 0, by8 x 1, by8 x 2, by8 x 3, by8 x 4, by8 x 5, by8 x 6, by8 x 7]
theorem by8_val {x : Int} (h : 0 ≤ x) (k : Nat) : ((by8 x k).toNat : Int) = x / 256 ^ k % 256 := by
  rw [by8, u8_of (Nat.mod_lt _ (by omega))]
  obtain ⟨n, rfl⟩ : ∃ n : Nat, x = (n : Int) := ⟨x.toNat, by omega⟩
  rw [Int.toNat_natCast, Int.natCast_emod, Int.natCast_ediv, Int.natCast_pow]
  rfl
def tx1 (s : ByteArray) : Ch.L8 := num s.size ++ s.data.toList
theorem flat_take {α : Type} (f : α → Ch.L8) (l : List α) (k : Nat) (x : α) (h : l[k]? = some x) : (l.take (k + 1)).flatMap f = (l.take k).flatMap f ++ f x := by
  obtain ⟨h1, h2⟩ := List.getElem?_eq_some_iff.1 h
  rw [List.take_succ_eq_append_getElem h1, List.flatMap_append, h2]
  simp
end Cd
set_option maxRecDepth 100000 in
set_option maxHeartbeats 2000000 in
theorem cnum_any {w : World} {wb : Nat} {L : Ch.L8} (h : WS w wb L) (n : Nat) (hn : n ≤ 9223372036854775807) :
    Calls Tryd.prog 30 #[.pointer (some ⟨wb, 0, none⟩), .int .i64 (n : Int)] w fun e w' => e = .returned (.tuple #[]) ∧ WS w' wb (L ++ Cd.num n) ∧ Fk wb w w' := by
  obtain ⟨T, hT⟩ : ∃ T, L ++ Cd.num n = T := ⟨_, rfl⟩
  rw [hT]
  have S0 : Hid (WS w wb L ∧ L ++ Cd.num n = T ∧ Fk wb w w) := ⟨h, hT, Fk.refl _ _⟩
  clear hT h
  go_enter Tryd.func30, Tryd.ntmps30
  go_wp2_with fail
  go_loopg [1] n (fun m iv wr => m ≤ n ∧ iv = .int .i64 (m : Int) ∧ ∃ P, Hid (WS wr wb P ∧ P ++ Cd.num m = T ∧ Fk wb w wr))
  case atStart => exact ⟨Nat.le_refl _, rfl, L, S0⟩
  case round =>
    obtain ⟨hm, rfl, P, J⟩ := hrel
    clear S0
    have mi : (gk : Int) ≤ 9223372036854775807 := by omega
    have mi0 : (0 : Int) ≤ (gk : Int) := by omega
    have K := J.out.2.2
    by_cases h : gk < 128
    · have hi : (gk : Int) < 128 := by omega
      have hi2 : ¬ (128 : Int) ≤ (gk : Int) := by omega
      have e := J.out.2.1
      rw [Cd.num_lt h] at e
      have PU := cput1_any J.out.1 (UInt8.ofNat gk) gk (Cd.u8_of (by omega)).symm
      rw [e] at PU
      have P1 := hid PU
      have K1 := hid K
      clear PU e K J
      go_wp2_with (go_at_call 31; with_reducible refine P1.out.mono ?_; rintro e w2 ⟨rfl, g1, g2⟩; have F := hid (And.intro g1 (K1.out.trans g2)); clear g1 g2 P1 K1)
      go_end0
      exact ⟨rfl, F.out⟩
    · have hi : (128 : Int) ≤ (gk : Int) := by omega
      have e := J.out.2.1
      rw [Cd.num_ge h, List.append_cons] at e
      have r0 : (0 : Int) ≤ (gk : Int) % 128 := by omega
      have r1 : (gk : Int) % 128 < 128 := by omega
      have PU := cput1_any J.out.1 (UInt8.ofNat (gk % 128 + 128)) ((gk : Int) % 128 + 128) (by rw [Cd.u8_of (by omega)]; omega)
      have P1 := hid PU
      have K1 := hid K
      have E := hid e
      clear PU e K J
      go_wp2_with (go_at_call 31; with_reducible refine P1.out.mono ?_; rintro e w2 ⟨rfl, g1, g2⟩; have F := hid (And.intro g1 (And.intro E.out (K1.out.trans g2))); clear g1 g2 P1 K1 E)
      go_roundg (gk / 128)
      case measure => omega
      case rel => exact ⟨by omega, by go_num, _, F⟩
set_option maxRecDepth 100000 in
set_option maxHeartbeats 2000000 in
theorem cdbls_any {w : World} {wb : Nat} {L : Ch.L8} (h : WS w wb L) (p : Option Addr) (cap : Nat) (l : List Int) (w0 : World) (hw : Below w0.heap.size w0 w) (hb : w0.heap.size ≤ wb) (hL : Cd.NI w0 p l) (hU : Cd.U64 l) (hn : l.length ≤ 9223372036854775807) :
    Calls Tryd.prog 21 #[.pointer (some ⟨wb, 0, none⟩), .slice p l.length cap] w fun e w' => e = .returned (.tuple #[]) ∧ WS w' wb (L ++ (Cd.num l.length ++ l.flatMap Cd.dbl)) ∧ Fk wb w w' := by
  obtain ⟨n, hn'⟩ : ∃ n, l.length = n := ⟨_, rfl⟩
  have hni : (n : Int) ≤ 9223372036854775807 := by omega
  have NU := hid (cnum_any h n (by omega))
  have L0 := hid hL
  have HW := hid hw
  have FT : Hid (∀ k x, l[k]? = some x → _) := fun k x hx => Cd.flat_take Cd.dbl l k x hx
  have FE : Hid ((l.take n).flatMap Cd.dbl = l.flatMap Cd.dbl) := by rw [Hid, List.take_of_length_le (by omega)]
  have GX : Hid (∀ i, i < n → ∃ x, l[i]? = some x ∧ 0 ≤ x ∧ x < 18446744073709551616) := fun i hi => ⟨_, List.getElem?_eq_getElem (by omega), hU _ (List.getElem_mem _)⟩
  rw [hn']
  clear hL hw hU hn h
  go_enter Tryd.func21, Tryd.ntmps21
  go_upto_region 1 with (go_at_call 30; with_reducible refine NU.out.mono ?_; rintro e w2 ⟨rfl, g1, g2⟩; have W2 := hid g1; have K2 := hid g2; clear g1 g2 NU)
  have S0 : Hid (WS w2 wb (L ++ Cd.num n ++ (l.take 0).flatMap Cd.dbl) ∧ Fk wb w w2) := ⟨by simpa using W2.out, K2.out⟩
  go_wp2_with fail
  go_loopg [12] n (fun m iv wr => ∃ k : Nat, k + m = n ∧ iv = .int .i64 (k : Int) ∧ Hid (WS wr wb (L ++ Cd.num n ++ (l.take k).flatMap Cd.dbl) ∧ Fk wb w wr))
  case atStart => exact ⟨0, by omega, rfl, S0⟩
  case round =>
    obtain ⟨k, hk, rfl, J⟩ := hrel
    clear S0 W2 K2
    by_cases kl : k < n
    · have kli : (k : Int) < (n : Int) := by omega
      obtain ⟨x, hx, x0, x1⟩ := GX.out k kl
      obtain ⟨b, off, rfl, c0⟩ := L0.out.below (HW.out.trans (J.out.2.bel.mono hb)) (Nat.le_refl _) k x hx
      have PU := cput_any J.out.1 (Cd.dbl x) 8 rfl (by omega)
      have E := FT.out k x hx
      rw [List.append_assoc, ← E] at PU
      have e : (Lib.byteCells (Cd.dbl x)).toArray = #[.int .u8 (x % 256), .int .u8 (x / 256 % 256), .int .u8 (x / 65536 % 256), .int .u8 (x / 16777216 % 256), .int .u8 (x / 4294967296 % 256), .int .u8 (x / 1099511627776 % 256), .int .u8 (x / 281474976710656 % 256), .int .u8 (x / 72057594037927936)] := by
        have e7 : x / 256 ^ 7 % 256 = x / 72057594037927936 := by omega
        simp only [Cd.dbl, Lib.byteCells, List.map_cons, List.map_nil, Cd.by8_val x0, e7]
        simp
      rw [e] at PU
      have P1 := hid PU
      have K1 := hid J.out.2
      clear PU e J E FT GX L0 HW FE hx
      go_wp2_with (go_at_call 31; with_reducible refine P1.out.mono ?_; rintro e w3 ⟨rfl, g1, g2⟩; have F := hid (And.intro g1 (K1.out.trans g2)); clear g1 g2 P1 K1)
      go_roundg (n - (k + 1))
      case measure => omega
      case rel => exact ⟨k + 1, by omega, by go_num, F⟩
    · have kli : ¬ (k : Int) < (n : Int) := by omega
      obtain rfl : k = n := by omega
      have F : Hid (WS wr wb (L ++ (Cd.num k ++ l.flatMap Cd.dbl)) ∧ Fk wb w wr) := ⟨by have := J.out.1; rw [FE.out, List.append_assoc] at this; exact this, J.out.2⟩
      clear J FE FT GX L0 HW
      go_wp2_with fail
      go_end0
      exact ⟨rfl, F.out⟩
set_option maxRecDepth 100000 in
set_option maxHeartbeats 2000000 in
theorem ctxts_any {w : World} {wb : Nat} {L : Ch.L8} (h : WS w wb L) (p : Option Addr) (cap : Nat) (l : List ByteArray) (w0 : World) (hw : Below w0.heap.size w0 w) (hb : w0.heap.size ≤ wb) (hL : TR w0 p l) (hU : ∀ s ∈ l, s.size ≤ 9223372036854775807) (hn : l.length ≤ 9223372036854775807) :
    Calls Tryd.prog 22 #[.pointer (some ⟨wb, 0, none⟩), .slice p l.length cap] w fun e w' => e = .returned (.tuple #[]) ∧ WS w' wb (L ++ (Cd.num l.length ++ l.flatMap Cd.tx1)) ∧ Fk wb w w' := by
  obtain ⟨n, hn'⟩ : ∃ n, l.length = n := ⟨_, rfl⟩
  have hni : (n : Int) ≤ 9223372036854775807 := by omega
  have NU := hid (cnum_any h n (by omega))
  have L0 := hid hL
  have HW := hid hw
  have FT : Hid (∀ k x, l[k]? = some x → _) := fun k x hx => Cd.flat_take Cd.tx1 l k x hx
  have FE : Hid ((l.take n).flatMap Cd.tx1 = l.flatMap Cd.tx1) := by rw [Hid, List.take_of_length_le (by omega)]
  have GX : Hid (∀ i, i < n → ∃ x, l[i]? = some x ∧ x.size ≤ 9223372036854775807) := fun i hi => ⟨_, List.getElem?_eq_getElem (by omega), hU _ (List.getElem_mem _)⟩
  rw [hn']
  clear hL hw hU hn h
  go_enter Tryd.func22, Tryd.ntmps22
  go_upto_region 1 with (go_at_call 30; with_reducible refine NU.out.mono ?_; rintro e w2 ⟨rfl, g1, g2⟩; have W2 := hid g1; have K2 := hid g2; clear g1 g2 NU)
  have S0 : Hid (WS w2 wb (L ++ Cd.num n ++ (l.take 0).flatMap Cd.tx1) ∧ Fk wb w w2) := ⟨by simpa using W2.out, K2.out⟩
  go_wp2_with fail
  go_loopg [12] n (fun m iv wr => ∃ k : Nat, k + m = n ∧ iv = .int .i64 (k : Int) ∧ Hid (WS wr wb (L ++ Cd.num n ++ (l.take k).flatMap Cd.tx1) ∧ Fk wb w wr))
  case atStart => exact ⟨0, by omega, rfl, S0⟩
  case round =>
    obtain ⟨k, hk, rfl, J⟩ := hrel
    clear S0 W2 K2
    by_cases kl : k < n
    · have kli : (k : Int) < (n : Int) := by omega
      obtain ⟨x, hx, x1⟩ := GX.out k kl
      have tb := L0.out.below (HW.out.trans (J.out.2.bel.mono hb)) (Nat.le_refl _)
      obtain ⟨b, off, rfl, c0⟩ : ∃ b off, p = some ⟨b, off, none⟩ ∧ wr.cell? ⟨b, off + k, none⟩ = some (.string x) := by
        rcases tb with rfl | ⟨b, off, rfl, h⟩
        · simp at hx
        · exact ⟨b, off, rfl, h k x hx⟩
      have E := FT.out k x hx
      have NU := hid (cnum_any J.out.1 x.size x1)
      have TU : Hid (∀ W, WS W wb (L ++ Cd.num n ++ (l.take k).flatMap Cd.tx1 ++ Cd.num x.size) → Calls Tryd.prog 20 #[.pointer (some ⟨wb, 0, none⟩), .string x] W fun e w' => e = .returned (.tuple #[]) ∧ WS w' wb (L ++ Cd.num n ++ (l.take (k + 1)).flatMap Cd.tx1) ∧ Fk wb W w') := fun W hW => by
        have := ctext_any hW x x1
        rw [E, Cd.tx1, ← List.append_assoc, ← List.append_assoc]
        exact this
      have K1 := hid J.out.2
      have xi : (x.size : Int) ≤ 9223372036854775807 := by omega
      clear E J FT GX L0 HW FE hx tb
      go_wp2_with (first
        | (go_at_call 30; with_reducible refine NU.out.mono ?_; rintro e w3 ⟨rfl, g1, g2⟩; have W3 := hid g1; have K3 := hid (K1.out.trans g2); clear g1 g2 NU K1)
        | (go_at_call 20; with_reducible refine (TU.out _ W3.out).mono ?_; rintro e w4 ⟨rfl, g1, g2⟩; have F := hid (And.intro g1 (K3.out.trans g2)); clear g1 g2 TU K3 W3))
      go_roundg (n - (k + 1))
      case measure => omega
      case rel => exact ⟨k + 1, by omega, by go_num, F⟩
    · have kli : ¬ (k : Int) < (n : Int) := by omega
      obtain rfl : k = n := by omega
      have F : Hid (WS wr wb (L ++ (Cd.num k ++ l.flatMap Cd.tx1)) ∧ Fk wb w wr) := ⟨by have := J.out.1; rw [FE.out, List.append_assoc] at this; exact this, J.out.2⟩
      clear J FE FT GX L0 HW
      go_wp2_with fail
      go_end0
      exact ⟨rfl, F.out⟩
end Go.Proofs.YtnobafmleellhabDoor
