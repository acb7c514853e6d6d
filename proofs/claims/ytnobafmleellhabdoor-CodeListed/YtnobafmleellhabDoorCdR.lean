/-
  code: quoted, bits (mkcdr.py).
-/
import Derived.Test.YtnobafmleellhabDoorCdQ
namespace Go.Proofs.YtnobafmleellhabDoor
open Go Go.RowKit Go.Deep Go.Shelf

theorem WS.long {w : World} {wb : Nat} {L L' : Ch.L8} (h : WS w wb L) (h1 : 16777216 < L.length) (h2 : 16777216 < L'.length) : WS w wb L' := by
  obtain ⟨mv, M, hx, a, b, _⟩ := h.ex
  refine ⟨mv, M, ?_, a, b, fun z => by omega⟩
  rw [decide_eq_true h1] at hx
  rw [decide_eq_true h2]
  exact hx
theorem Cd.ls_take (s : Ch.L8) (k : Nat) : ((s.take k).flatMap Cd.ls).length ≤ (s.flatMap Cd.ls).length := by
  conv => rhs; rw [← List.take_append_drop k s]
  rw [List.flatMap_append, List.length_append]
  omega
set_option maxRecDepth 100000 in
set_option maxHeartbeats 2000000 in
theorem cquo_any {w : World} {wb : Nat} {L : Ch.L8} (h : WS w wb L) (s : ByteArray) (hs : s.size ≤ 9223372036854775807) :
    Calls Tryd.prog 35 #[.pointer (some ⟨wb, 0, none⟩), .string s] w fun e w' => e = .returned (.tuple #[]) ∧ WS w' wb (L ++ Cd.qt s.data.toList) ∧ Fk wb w w' := by
  have HL := hid (Ch.size_len s)
  have BA : Hid (∀ j (h : j < s.size), ((s[j]'h).toNat : Int) = ((s.data.toList.getD j 0).toNat : Int)) := fun j h => by rw [byte_getD s j h]
  have hsi : (s.size : Int) ≤ 9223372036854775807 := by omega
  have PU := hid (cput1_any h 34 34 rfl)
  have FT : Hid (∀ k, k < s.size → (s.data.toList.take (k + 1)).flatMap Cd.ls = (s.data.toList.take k).flatMap Cd.ls ++ Cd.ls (s.data.toList.getD k 0)) := fun k hk => by
    refine Cd.flat_take Cd.ls _ k _ ?_
    rw [List.getD_eq_getElem?_getD, List.getElem?_eq_getElem (by rw [Ch.size_len]; exact hk)]
    rfl
  have FE : Hid ((s.data.toList.take s.size).flatMap Cd.ls = s.data.toList.flatMap Cd.ls) := by rw [Hid, List.take_of_length_le (by rw [Ch.size_len]; omega)]
  have LT : Hid (∀ k, ((s.data.toList.take k).flatMap Cd.ls).length ≤ (s.data.toList.flatMap Cd.ls).length) := fun k => Cd.ls_take _ _
  have QE : Hid (L ++ Cd.qt s.data.toList = L ++ [34] ++ s.data.toList.flatMap Cd.ls ++ [34]) := by simp [Hid, Cd.qt]
  generalize Cd.qt s.data.toList = Q at *
  generalize s.data.toList = l at *
  clear h
  go_enter Tryd.func35, Tryd.ntmps35
  go_upto_region 1 with (go_at_call 31; with_reducible refine PU.out.mono ?_; rintro e w2 ⟨rfl, g1, g2⟩; have W2 := hid g1; have K2 := hid g2; clear g1 g2 PU)
  have S0 : Hid (WS w2 wb (L ++ [34] ++ (l.take 0).flatMap Cd.ls) ∧ Fk wb w w2) := ⟨by simpa using W2.out, K2.out⟩
  clear W2 K2
  go_wp2_with fail
  go_loopg [4] s.size (fun m iv wr => ∃ k : Nat, k + m = s.size ∧ iv = .int .i64 (k : Int) ∧ Hid (WS wr wb (L ++ [34] ++ (l.take k).flatMap Cd.ls) ∧ Fk wb w wr))
  case atStart => exact ⟨0, by omega, rfl, S0⟩
  case round =>
    obtain ⟨k, hk, rfl, J⟩ := hrel
    clear S0
    obtain ⟨mv, M, hx, -⟩ := J.out.1.ex
    obtain ⟨-, c1, -, -⟩ := bx2w hx
    clear hx
    by_cases kl : k < s.size
    · have kli : (k : Int) < (s.size : Int) := by omega
      by_cases hg : 16777216 < (L ++ [34] ++ (l.take k).flatMap Cd.ls).length
      · rw [decide_eq_true hg] at c1
        have PU := cput1_any J.out.1 34 34 rfl
        have K1 := hid J.out.2
        have LL := LT.out k
        have F0 : Hid (∀ W, WS W wb (L ++ [34] ++ (l.take k).flatMap Cd.ls ++ [34]) → WS W wb (L ++ Q)) := fun W hW => by
          refine hW.long ?_ ?_
          · simp only [List.length_append] at hg ⊢; omega
          · rw [QE.out]; simp only [List.length_append] at hg ⊢; omega
        have P1 := hid PU
        clear PU LL hg J FT FE LT QE
        go_wp2_with (go_at_call 31; with_reducible refine P1.out.mono ?_; rintro e w3 ⟨rfl, g1, g2⟩; have F := hid (And.intro (F0.out _ g1) (K1.out.trans g2)); clear g1 g2 P1 K1 F0)
        go_end0
        exact ⟨rfl, F.out⟩
      · rw [decide_eq_false hg] at c1
        have BJ := BA.out k
        have E := FT.out k kl
        have PU := clst_any J.out.1 (l.getD k 0)
        rw [List.append_assoc (L ++ [34]), ← E] at PU
        have P1 := hid PU
        have K1 := hid J.out.2
        clear PU E hg J FT FE LT QE
        generalize l.getD k 0 = c at *
        go_wp2_with (go_at_call 39; with_reducible refine P1.out.mono ?_; rintro e w3 ⟨rfl, g1, g2⟩; have F := hid (And.intro g1 (K1.out.trans g2)); clear g1 g2 P1 K1)
        go_roundg (s.size - (k + 1))
        case measure => omega
        case rel => exact ⟨k + 1, by omega, by go_num, F⟩
    · have kli : ¬ (k : Int) < (s.size : Int) := by omega
      obtain rfl : k = s.size := by omega
      have W1 := J.out.1
      rw [FE.out] at W1
      have PU := cput1_any W1 34 34 rfl
      rw [← QE.out] at PU
      have P1 := hid PU
      have K1 := hid J.out.2
      clear PU W1 J FT FE LT QE
      go_wp2_with (go_at_call 31; with_reducible refine P1.out.mono ?_; rintro e w3 ⟨rfl, g1, g2⟩; have F := hid (And.intro g1 (K1.out.trans g2)); clear g1 g2 P1 K1)
      go_end0
      exact ⟨rfl, F.out⟩
namespace Cd
def hex16 (x : Int) : Ch.L8 := (List.range 16).map fun k => hx (x.toNat / 16 ^ (15 - k) % 16)
theorem hex16_len (x : Int) : (hex16 x).length = 16 := by simp [hex16]
theorem hex16_take (n : Nat) (k : Nat) (hk : k < 16) (u v : Nat) (hu : n / 16 ^ (15 - k) = u) (hv : u % 16 = v) : (hex16 (n : Int)).take (k + 1) = (hex16 (n : Int)).take k ++ [hx v] := by
  rw [List.take_succ_eq_append_getElem (by rw [hex16_len]; exact hk)]
  congr 1
  simp [hex16, hu, hv]
end Cd
set_option maxRecDepth 100000 in
set_option maxHeartbeats 8000000 in
theorem cbits_any {w : World} {wb : Nat} {L : Ch.L8} (h : WS w wb L) (x : Int) (x0 : 0 ≤ x) (x1 : x < 18446744073709551616) :
    Calls Tryd.prog 34 #[.pointer (some ⟨wb, 0, none⟩), .int .u64 x] w fun e w' => e = .returned (.tuple #[]) ∧ WS w' wb (L ++ Cd.hex16 x) ∧ Fk wb w w' := by
  obtain ⟨n, rfl⟩ : ∃ n : Nat, x = (n : Int) := ⟨x.toNat, by omega⟩
  have n1 : n < 18446744073709551616 := by omega
  have S0 : Hid (WS w wb (L ++ (Cd.hex16 n).take 0) ∧ Fk wb w w) := ⟨by simpa using h, Fk.refl _ _⟩
  have FT : Hid (∀ k, k < 16 → ∀ u v, n / 16 ^ (15 - k) = u → u % 16 = v → _) := fun k hk u v hu hv => Cd.hex16_take n k hk u v hu hv
  have FE : Hid ((Cd.hex16 n).take 16 = Cd.hex16 n) := by rw [Hid, List.take_of_length_le (by rw [Cd.hex16_len]; omega)]
  generalize Cd.hex16 n = H at *
  clear h
  go_enter Tryd.func34, Tryd.ntmps34
  go_wp2_with fail
  go_loopg [4] 16 (fun m iv wr => ∃ k : Nat, k + m = 16 ∧ iv = .int .i64 (60 - 4 * (k : Int)) ∧ Hid (WS wr wb (L ++ H.take k) ∧ Fk wb w wr))
  case atStart => exact ⟨0, by omega, rfl, S0⟩
  case round =>
    obtain ⟨k, hk, rfl, J⟩ := hrel
    clear S0
    have hc : k = 0 ∨ k = 1 ∨ k = 2 ∨ k = 3 ∨ k = 4 ∨ k = 5 ∨ k = 6 ∨ k = 7 ∨ k = 8 ∨ k = 9 ∨ k = 10 ∨ k = 11 ∨ k = 12 ∨ k = 13 ∨ k = 14 ∨ k = 15 ∨ k = 16 := by omega
    rcases hc with rfl | rfl | rfl | rfl | rfl | rfl | rfl | rfl | rfl | rfl | rfl | rfl | rfl | rfl | rfl | rfl | rfl
    · obtain ⟨u, hu⟩ : ∃ u, n / 1152921504606846976 = u := ⟨_, rfl⟩
      obtain ⟨v, hv⟩ : ∃ v, u % 16 = v := ⟨_, rfl⟩
      have i1 : (n : Int) / 1152921504606846976 = (u : Int) := by omega
      have AN := cd_and15l u (by omega)
      rw [hv] at AN
      have i3 : v < 16 := by omega
      have i5 : (v : Int) < 16 := by omega
      have hxv := hex_at v
      have E := FT.out 0 (by omega) u v (by rw [show (16 : Nat) ^ (15 - 0) = 1152921504606846976 by decide]; exact hu) hv
      have PU := cput1_any J.out.1 (Cd.hx v) _ rfl
      rw [List.append_assoc, ← E] at PU
      have P1 := hid PU
      have K1 := hid J.out.2
      clear PU E J FT FE hv
      rw [show (60 : Int) - 4 * ((0 : Nat) : Int) = 60 by omega]
      clear hu
      go_wp2_with (go_at_call 31; with_reducible refine P1.out.mono ?_; rintro e w3 ⟨rfl, g1, g2⟩; have F := hid (And.intro g1 (K1.out.trans g2)); clear g1 g2 P1 K1)
      go_roundg 15
      case measure => omega
      case rel => exact ⟨1, by omega, by rfl, F⟩
    · obtain ⟨u, hu⟩ : ∃ u, n / 72057594037927936 = u := ⟨_, rfl⟩
      obtain ⟨v, hv⟩ : ∃ v, u % 16 = v := ⟨_, rfl⟩
      have i1 : (n : Int) / 72057594037927936 = (u : Int) := by omega
      have AN := cd_and15l u (by omega)
      rw [hv] at AN
      have i3 : v < 16 := by omega
      have i5 : (v : Int) < 16 := by omega
      have hxv := hex_at v
      have E := FT.out 1 (by omega) u v (by rw [show (16 : Nat) ^ (15 - 1) = 72057594037927936 by decide]; exact hu) hv
      have PU := cput1_any J.out.1 (Cd.hx v) _ rfl
      rw [List.append_assoc, ← E] at PU
      have P1 := hid PU
      have K1 := hid J.out.2
      clear PU E J FT FE hv
      rw [show (60 : Int) - 4 * ((1 : Nat) : Int) = 56 by omega]
      clear hu
      go_wp2_with (go_at_call 31; with_reducible refine P1.out.mono ?_; rintro e w3 ⟨rfl, g1, g2⟩; have F := hid (And.intro g1 (K1.out.trans g2)); clear g1 g2 P1 K1)
      go_roundg 14
      case measure => omega
      case rel => exact ⟨2, by omega, by rfl, F⟩
    · obtain ⟨u, hu⟩ : ∃ u, n / 4503599627370496 = u := ⟨_, rfl⟩
      obtain ⟨v, hv⟩ : ∃ v, u % 16 = v := ⟨_, rfl⟩
      have i1 : (n : Int) / 4503599627370496 = (u : Int) := by omega
      have AN := cd_and15l u (by omega)
      rw [hv] at AN
      have i3 : v < 16 := by omega
      have i5 : (v : Int) < 16 := by omega
      have hxv := hex_at v
      have E := FT.out 2 (by omega) u v (by rw [show (16 : Nat) ^ (15 - 2) = 4503599627370496 by decide]; exact hu) hv
      have PU := cput1_any J.out.1 (Cd.hx v) _ rfl
      rw [List.append_assoc, ← E] at PU
      have P1 := hid PU
      have K1 := hid J.out.2
      clear PU E J FT FE hv
      rw [show (60 : Int) - 4 * ((2 : Nat) : Int) = 52 by omega]
      clear hu
      go_wp2_with (go_at_call 31; with_reducible refine P1.out.mono ?_; rintro e w3 ⟨rfl, g1, g2⟩; have F := hid (And.intro g1 (K1.out.trans g2)); clear g1 g2 P1 K1)
      go_roundg 13
      case measure => omega
      case rel => exact ⟨3, by omega, by rfl, F⟩
    · obtain ⟨u, hu⟩ : ∃ u, n / 281474976710656 = u := ⟨_, rfl⟩
      obtain ⟨v, hv⟩ : ∃ v, u % 16 = v := ⟨_, rfl⟩
      have i1 : (n : Int) / 281474976710656 = (u : Int) := by omega
      have AN := cd_and15l u (by omega)
      rw [hv] at AN
      have i3 : v < 16 := by omega
      have i5 : (v : Int) < 16 := by omega
      have hxv := hex_at v
      have E := FT.out 3 (by omega) u v (by rw [show (16 : Nat) ^ (15 - 3) = 281474976710656 by decide]; exact hu) hv
      have PU := cput1_any J.out.1 (Cd.hx v) _ rfl
      rw [List.append_assoc, ← E] at PU
      have P1 := hid PU
      have K1 := hid J.out.2
      clear PU E J FT FE hv
      rw [show (60 : Int) - 4 * ((3 : Nat) : Int) = 48 by omega]
      clear hu
      go_wp2_with (go_at_call 31; with_reducible refine P1.out.mono ?_; rintro e w3 ⟨rfl, g1, g2⟩; have F := hid (And.intro g1 (K1.out.trans g2)); clear g1 g2 P1 K1)
      go_roundg 12
      case measure => omega
      case rel => exact ⟨4, by omega, by rfl, F⟩
    · obtain ⟨u, hu⟩ : ∃ u, n / 17592186044416 = u := ⟨_, rfl⟩
      obtain ⟨v, hv⟩ : ∃ v, u % 16 = v := ⟨_, rfl⟩
      have i1 : (n : Int) / 17592186044416 = (u : Int) := by omega
      have AN := cd_and15l u (by omega)
      rw [hv] at AN
      have i3 : v < 16 := by omega
      have i5 : (v : Int) < 16 := by omega
      have hxv := hex_at v
      have E := FT.out 4 (by omega) u v (by rw [show (16 : Nat) ^ (15 - 4) = 17592186044416 by decide]; exact hu) hv
      have PU := cput1_any J.out.1 (Cd.hx v) _ rfl
      rw [List.append_assoc, ← E] at PU
      have P1 := hid PU
      have K1 := hid J.out.2
      clear PU E J FT FE hv
      rw [show (60 : Int) - 4 * ((4 : Nat) : Int) = 44 by omega]
      clear hu
      go_wp2_with (go_at_call 31; with_reducible refine P1.out.mono ?_; rintro e w3 ⟨rfl, g1, g2⟩; have F := hid (And.intro g1 (K1.out.trans g2)); clear g1 g2 P1 K1)
      go_roundg 11
      case measure => omega
      case rel => exact ⟨5, by omega, by rfl, F⟩
    · obtain ⟨u, hu⟩ : ∃ u, n / 1099511627776 = u := ⟨_, rfl⟩
      obtain ⟨v, hv⟩ : ∃ v, u % 16 = v := ⟨_, rfl⟩
      have i1 : (n : Int) / 1099511627776 = (u : Int) := by omega
      have AN := cd_and15l u (by omega)
      rw [hv] at AN
      have i3 : v < 16 := by omega
      have i5 : (v : Int) < 16 := by omega
      have hxv := hex_at v
      have E := FT.out 5 (by omega) u v (by rw [show (16 : Nat) ^ (15 - 5) = 1099511627776 by decide]; exact hu) hv
      have PU := cput1_any J.out.1 (Cd.hx v) _ rfl
      rw [List.append_assoc, ← E] at PU
      have P1 := hid PU
      have K1 := hid J.out.2
      clear PU E J FT FE hv
      rw [show (60 : Int) - 4 * ((5 : Nat) : Int) = 40 by omega]
      clear hu
      go_wp2_with (go_at_call 31; with_reducible refine P1.out.mono ?_; rintro e w3 ⟨rfl, g1, g2⟩; have F := hid (And.intro g1 (K1.out.trans g2)); clear g1 g2 P1 K1)
      go_roundg 10
      case measure => omega
      case rel => exact ⟨6, by omega, by rfl, F⟩
    · obtain ⟨u, hu⟩ : ∃ u, n / 68719476736 = u := ⟨_, rfl⟩
      obtain ⟨v, hv⟩ : ∃ v, u % 16 = v := ⟨_, rfl⟩
      have i1 : (n : Int) / 68719476736 = (u : Int) := by omega
      have AN := cd_and15l u (by omega)
      rw [hv] at AN
      have i3 : v < 16 := by omega
      have i5 : (v : Int) < 16 := by omega
      have hxv := hex_at v
      have E := FT.out 6 (by omega) u v (by rw [show (16 : Nat) ^ (15 - 6) = 68719476736 by decide]; exact hu) hv
      have PU := cput1_any J.out.1 (Cd.hx v) _ rfl
      rw [List.append_assoc, ← E] at PU
      have P1 := hid PU
      have K1 := hid J.out.2
      clear PU E J FT FE hv
      rw [show (60 : Int) - 4 * ((6 : Nat) : Int) = 36 by omega]
      clear hu
      go_wp2_with (go_at_call 31; with_reducible refine P1.out.mono ?_; rintro e w3 ⟨rfl, g1, g2⟩; have F := hid (And.intro g1 (K1.out.trans g2)); clear g1 g2 P1 K1)
      go_roundg 9
      case measure => omega
      case rel => exact ⟨7, by omega, by rfl, F⟩
    · obtain ⟨u, hu⟩ : ∃ u, n / 4294967296 = u := ⟨_, rfl⟩
      obtain ⟨v, hv⟩ : ∃ v, u % 16 = v := ⟨_, rfl⟩
      have i1 : (n : Int) / 4294967296 = (u : Int) := by omega
      have AN := cd_and15l u (by omega)
      rw [hv] at AN
      have i3 : v < 16 := by omega
      have i5 : (v : Int) < 16 := by omega
      have hxv := hex_at v
      have E := FT.out 7 (by omega) u v (by rw [show (16 : Nat) ^ (15 - 7) = 4294967296 by decide]; exact hu) hv
      have PU := cput1_any J.out.1 (Cd.hx v) _ rfl
      rw [List.append_assoc, ← E] at PU
      have P1 := hid PU
      have K1 := hid J.out.2
      clear PU E J FT FE hv
      rw [show (60 : Int) - 4 * ((7 : Nat) : Int) = 32 by omega]
      clear hu
      go_wp2_with (go_at_call 31; with_reducible refine P1.out.mono ?_; rintro e w3 ⟨rfl, g1, g2⟩; have F := hid (And.intro g1 (K1.out.trans g2)); clear g1 g2 P1 K1)
      go_roundg 8
      case measure => omega
      case rel => exact ⟨8, by omega, by rfl, F⟩
    · obtain ⟨u, hu⟩ : ∃ u, n / 268435456 = u := ⟨_, rfl⟩
      obtain ⟨v, hv⟩ : ∃ v, u % 16 = v := ⟨_, rfl⟩
      have i1 : (n : Int) / 268435456 = (u : Int) := by omega
      have AN := cd_and15l u (by omega)
      rw [hv] at AN
      have i3 : v < 16 := by omega
      have i5 : (v : Int) < 16 := by omega
      have hxv := hex_at v
      have E := FT.out 8 (by omega) u v (by rw [show (16 : Nat) ^ (15 - 8) = 268435456 by decide]; exact hu) hv
      have PU := cput1_any J.out.1 (Cd.hx v) _ rfl
      rw [List.append_assoc, ← E] at PU
      have P1 := hid PU
      have K1 := hid J.out.2
      clear PU E J FT FE hv
      rw [show (60 : Int) - 4 * ((8 : Nat) : Int) = 28 by omega]
      clear hu
      go_wp2_with (go_at_call 31; with_reducible refine P1.out.mono ?_; rintro e w3 ⟨rfl, g1, g2⟩; have F := hid (And.intro g1 (K1.out.trans g2)); clear g1 g2 P1 K1)
      go_roundg 7
      case measure => omega
      case rel => exact ⟨9, by omega, by rfl, F⟩
    · obtain ⟨u, hu⟩ : ∃ u, n / 16777216 = u := ⟨_, rfl⟩
      obtain ⟨v, hv⟩ : ∃ v, u % 16 = v := ⟨_, rfl⟩
      have i1 : (n : Int) / 16777216 = (u : Int) := by omega
      have AN := cd_and15l u (by omega)
      rw [hv] at AN
      have i3 : v < 16 := by omega
      have i5 : (v : Int) < 16 := by omega
      have hxv := hex_at v
      have E := FT.out 9 (by omega) u v (by rw [show (16 : Nat) ^ (15 - 9) = 16777216 by decide]; exact hu) hv
      have PU := cput1_any J.out.1 (Cd.hx v) _ rfl
      rw [List.append_assoc, ← E] at PU
      have P1 := hid PU
      have K1 := hid J.out.2
      clear PU E J FT FE hv
      rw [show (60 : Int) - 4 * ((9 : Nat) : Int) = 24 by omega]
      clear hu
      go_wp2_with (go_at_call 31; with_reducible refine P1.out.mono ?_; rintro e w3 ⟨rfl, g1, g2⟩; have F := hid (And.intro g1 (K1.out.trans g2)); clear g1 g2 P1 K1)
      go_roundg 6
      case measure => omega
      case rel => exact ⟨10, by omega, by rfl, F⟩
    · obtain ⟨u, hu⟩ : ∃ u, n / 1048576 = u := ⟨_, rfl⟩
      obtain ⟨v, hv⟩ : ∃ v, u % 16 = v := ⟨_, rfl⟩
      have i1 : (n : Int) / 1048576 = (u : Int) := by omega
      have AN := cd_and15l u (by omega)
      rw [hv] at AN
      have i3 : v < 16 := by omega
      have i5 : (v : Int) < 16 := by omega
      have hxv := hex_at v
      have E := FT.out 10 (by omega) u v (by rw [show (16 : Nat) ^ (15 - 10) = 1048576 by decide]; exact hu) hv
      have PU := cput1_any J.out.1 (Cd.hx v) _ rfl
      rw [List.append_assoc, ← E] at PU
      have P1 := hid PU
      have K1 := hid J.out.2
      clear PU E J FT FE hv
      rw [show (60 : Int) - 4 * ((10 : Nat) : Int) = 20 by omega]
      clear hu
      go_wp2_with (go_at_call 31; with_reducible refine P1.out.mono ?_; rintro e w3 ⟨rfl, g1, g2⟩; have F := hid (And.intro g1 (K1.out.trans g2)); clear g1 g2 P1 K1)
      go_roundg 5
      case measure => omega
      case rel => exact ⟨11, by omega, by rfl, F⟩
    · obtain ⟨u, hu⟩ : ∃ u, n / 65536 = u := ⟨_, rfl⟩
      obtain ⟨v, hv⟩ : ∃ v, u % 16 = v := ⟨_, rfl⟩
      have i1 : (n : Int) / 65536 = (u : Int) := by omega
      have AN := cd_and15l u (by omega)
      rw [hv] at AN
      have i3 : v < 16 := by omega
      have i5 : (v : Int) < 16 := by omega
      have hxv := hex_at v
      have E := FT.out 11 (by omega) u v (by rw [show (16 : Nat) ^ (15 - 11) = 65536 by decide]; exact hu) hv
      have PU := cput1_any J.out.1 (Cd.hx v) _ rfl
      rw [List.append_assoc, ← E] at PU
      have P1 := hid PU
      have K1 := hid J.out.2
      clear PU E J FT FE hv
      rw [show (60 : Int) - 4 * ((11 : Nat) : Int) = 16 by omega]
      clear hu
      go_wp2_with (go_at_call 31; with_reducible refine P1.out.mono ?_; rintro e w3 ⟨rfl, g1, g2⟩; have F := hid (And.intro g1 (K1.out.trans g2)); clear g1 g2 P1 K1)
      go_roundg 4
      case measure => omega
      case rel => exact ⟨12, by omega, by rfl, F⟩
    · obtain ⟨u, hu⟩ : ∃ u, n / 4096 = u := ⟨_, rfl⟩
      obtain ⟨v, hv⟩ : ∃ v, u % 16 = v := ⟨_, rfl⟩
      have i1 : (n : Int) / 4096 = (u : Int) := by omega
      have AN := cd_and15l u (by omega)
      rw [hv] at AN
      have i3 : v < 16 := by omega
      have i5 : (v : Int) < 16 := by omega
      have hxv := hex_at v
      have E := FT.out 12 (by omega) u v (by rw [show (16 : Nat) ^ (15 - 12) = 4096 by decide]; exact hu) hv
      have PU := cput1_any J.out.1 (Cd.hx v) _ rfl
      rw [List.append_assoc, ← E] at PU
      have P1 := hid PU
      have K1 := hid J.out.2
      clear PU E J FT FE hv
      rw [show (60 : Int) - 4 * ((12 : Nat) : Int) = 12 by omega]
      clear hu
      go_wp2_with (go_at_call 31; with_reducible refine P1.out.mono ?_; rintro e w3 ⟨rfl, g1, g2⟩; have F := hid (And.intro g1 (K1.out.trans g2)); clear g1 g2 P1 K1)
      go_roundg 3
      case measure => omega
      case rel => exact ⟨13, by omega, by rfl, F⟩
    · obtain ⟨u, hu⟩ : ∃ u, n / 256 = u := ⟨_, rfl⟩
      obtain ⟨v, hv⟩ : ∃ v, u % 16 = v := ⟨_, rfl⟩
      have i1 : (n : Int) / 256 = (u : Int) := by omega
      have AN := cd_and15l u (by omega)
      rw [hv] at AN
      have i3 : v < 16 := by omega
      have i5 : (v : Int) < 16 := by omega
      have hxv := hex_at v
      have E := FT.out 13 (by omega) u v (by rw [show (16 : Nat) ^ (15 - 13) = 256 by decide]; exact hu) hv
      have PU := cput1_any J.out.1 (Cd.hx v) _ rfl
      rw [List.append_assoc, ← E] at PU
      have P1 := hid PU
      have K1 := hid J.out.2
      clear PU E J FT FE hv
      rw [show (60 : Int) - 4 * ((13 : Nat) : Int) = 8 by omega]
      clear hu
      go_wp2_with (go_at_call 31; with_reducible refine P1.out.mono ?_; rintro e w3 ⟨rfl, g1, g2⟩; have F := hid (And.intro g1 (K1.out.trans g2)); clear g1 g2 P1 K1)
      go_roundg 2
      case measure => omega
      case rel => exact ⟨14, by omega, by rfl, F⟩
    · obtain ⟨u, hu⟩ : ∃ u, n / 16 = u := ⟨_, rfl⟩
      obtain ⟨v, hv⟩ : ∃ v, u % 16 = v := ⟨_, rfl⟩
      have i1 : (n : Int) / 16 = (u : Int) := by omega
      have AN := cd_and15l u (by omega)
      rw [hv] at AN
      have i3 : v < 16 := by omega
      have i5 : (v : Int) < 16 := by omega
      have hxv := hex_at v
      have E := FT.out 14 (by omega) u v (by rw [show (16 : Nat) ^ (15 - 14) = 16 by decide]; exact hu) hv
      have PU := cput1_any J.out.1 (Cd.hx v) _ rfl
      rw [List.append_assoc, ← E] at PU
      have P1 := hid PU
      have K1 := hid J.out.2
      clear PU E J FT FE hv
      rw [show (60 : Int) - 4 * ((14 : Nat) : Int) = 4 by omega]
      clear hu
      go_wp2_with (go_at_call 31; with_reducible refine P1.out.mono ?_; rintro e w3 ⟨rfl, g1, g2⟩; have F := hid (And.intro g1 (K1.out.trans g2)); clear g1 g2 P1 K1)
      go_roundg 1
      case measure => omega
      case rel => exact ⟨15, by omega, by rfl, F⟩
    · obtain ⟨u, hu⟩ : ∃ u, n / 1 = u := ⟨_, rfl⟩
      obtain ⟨v, hv⟩ : ∃ v, u % 16 = v := ⟨_, rfl⟩
      have i1 : (n : Int) / 1 = (u : Int) := by omega
      have AN := cd_and15l u (by omega)
      rw [hv] at AN
      have i3 : v < 16 := by omega
      have i5 : (v : Int) < 16 := by omega
      have hxv := hex_at v
      have E := FT.out 15 (by omega) u v (by rw [show (16 : Nat) ^ (15 - 15) = 1 by decide]; exact hu) hv
      have PU := cput1_any J.out.1 (Cd.hx v) _ rfl
      rw [List.append_assoc, ← E] at PU
      have P1 := hid PU
      have K1 := hid J.out.2
      clear PU E J FT FE hv
      rw [show (60 : Int) - 4 * ((15 : Nat) : Int) = 0 by omega]
      rw [Nat.div_one] at hu; subst hu; clear i1
      go_wp2_with (go_at_call 31; with_reducible refine P1.out.mono ?_; rintro e w3 ⟨rfl, g1, g2⟩; have F := hid (And.intro g1 (K1.out.trans g2)); clear g1 g2 P1 K1)
      go_roundg 0
      case measure => omega
      case rel => exact ⟨16, by omega, by rfl, F⟩
    · have F := hid J.out
      rw [FE.out] at F
      clear J FT FE
      rw [show (60 : Int) - 4 * ((16 : Nat) : Int) = -4 by omega]
      go_wp2_with fail
      go_end0
      exact ⟨rfl, F.out⟩
end Go.Proofs.YtnobafmleellhabDoor
