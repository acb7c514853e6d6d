/-
  code: slices.Max, Check.
-/
import Derived.Test.YtnobafmleellhabDoorCdM
namespace Go.Proofs.YtnobafmleellhabDoor
open Go Go.RowKit Go.Deep

set_option maxRecDepth 100000 in
set_option maxHeartbeats 2000000 in
theorem cmax_any (hs : List Int) (n cap g : Nat) (w : World) (hH : Cd.HB w g hs) (hn : hs.length = n) (h1 : 1 ≤ n) (hb : n ≤ 1000000) (h0 : hs.getD 0 0 = 0) :
    Calls Tryd.prog 14 #[.slice (some ⟨g, 0, none⟩) n cap] w fun e w' => e = .returned (.int .i64 (Cd.mx hs)) ∧ w' = w := by
  have hni : (n : Int) ≤ 1000000 := by omega
  have h1i : (1 : Int) ≤ (n : Int) := by omega
  have HC : Hid (∀ i, i < n → w.cell? ⟨g, i, none⟩ = some (.int .i64 (hs.getD i 0))) := fun i hi => hH.cell i (by omega)
  have MT : Hid (∀ k, k < n → (hs.take (k + 1)).foldl max 0 = max ((hs.take k).foldl max 0) (hs.getD k 0)) := fun k hk => Cd.mx_take (by omega)
  have ME : Hid ((hs.take n).foldl max 0 = Cd.mx hs) := by rw [Hid, List.take_of_length_le (by omega)]; rfl
  have M1 : Hid ((hs.take 1).foldl max 0 = 0) := by
    have := MT.out 0 (by omega)
    rw [h0] at this
    exact this
  have c0 := HC.out 0 (by omega)
  rw [h0] at c0
  generalize Cd.mx hs = M at *
  clear hH h0
  go_enter Tryd.func14, Tryd.ntmps14
  go_wp2_with fail
  go_loopg [3, 4] (n - 1) (fun m mv iv wr => ∃ k : Nat, k + m = n ∧ 1 ≤ k ∧ iv = .int .i64 (k : Int) ∧ mv = .int .i64 ((hs.take k).foldl max 0) ∧ wr = w)
  case atStart => exact ⟨1, by omega, by omega, rfl, by rw [M1.out], rfl⟩
  case round =>
    obtain ⟨k, hk, k1, rfl, rfl, rfl⟩ := hrel
    by_cases kl : k < n
    · have kli : (k : Int) < (n : Int) := by omega
      have c1 := HC.out k kl
      have E := MT.out k kl
      have F := hid E
      generalize (hs.take k).foldl max 0 = b at *
      generalize hs.getD k 0 = c at *
      clear E MT M1 c0 ME
      go_wp2_with fail
      all_goals
        go_roundg (n - (k + 1))
        case measure => omega
        case rel => exact ⟨k + 1, by omega, by omega, by go_num, by have := F.out; congr 1; omega, rfl⟩
    · have kli : ¬ (k : Int) < (n : Int) := by omega
      obtain rfl : k = n := by omega
      rw [ME.out]
      go_wp2_with fail
      go_ret
      exact ⟨rfl, rfl⟩
namespace Cd
theorem chk_ok {l : List In} {N S : Nat} (h : (hts l N S).2.2 = 0) : chk l N S = (mx (hts l N S).1, 0, 0) := by unfold chk; rw [if_pos h]
theorem chk_no {l : List In} {N S : Nat} (h : (hts l N S).2.2 = 260) : chk l N S = (0, (hts l N S).2.1, 260) := by unfold chk; rw [if_neg (by rw [h]; decide), h]
theorem hts_at {l : List In} {N S : Nat} (h : (hts l N S).2.2 = 0) : (hts l N S).2.1 = 0 := by
  obtain ⟨_, _, hs, _, _, e⟩ := hts_ok h
  rw [e]
end Cd
set_option maxRecDepth 100000 in
set_option maxHeartbeats 2000000 in
theorem cchk_any (l : List Cd.In) (p q r : Option Addr) (cap N c2 S c3 : Nat) (w : World) (hL : Cd.LI w p l) (hn : l.length ≤ 9223372036854775807) (hN : N ≤ 9223372036854775807) (hS : S ≤ 9223372036854775807) :
    Calls Tryd.prog 6 #[.agg #[.slice p l.length cap, .slice q N c2, .slice r S c3]] w fun e w' => e = .returned (.tuple #[.int .i64 (Cd.chk l N S).1, .int .i64 ((Cd.chk l N S).2.1 : Nat), .int .i64 (Cd.chk l N S).2.2]) ∧ Below w.heap.size w w' := by
  have B1 := hid (alloc_b w (.cells #[.slice p l.length cap, .slice q N c2, .slice r S c3] 26))
  have X1 := hid (Bx.new w 26 #[.slice p l.length cap, .slice q N c2, .slice r S c3])
  have HT := hid (chts_any l p q r cap N c2 S c3 _ (hL.on B1.out) hn hN hS)
  have CO := hid (Cd.chk_ok (l := l) (N := N) (S := S))
  have CN := hid (Cd.chk_no (l := l) (N := N) (S := S))
  have FI := hid (Cd.hts_first (l := l) (N := N) (S := S))
  have LN : Hid ((Cd.hts l N S).2.2 = 0 → l.length ≤ 131072) := fun h => by have := (Cd.hts_ok h).1; omega
  generalize Cd.chk l N S = C at *
  generalize Cd.hts l N S = T at *
  clear hL
  generalize l.length = n at *
  obtain ⟨T1, T2, T3⟩ := T
  go_enter Tryd.func6, Tryd.ntmps6
  go_upto_region 1 with fail
  generalize w.alloc (.cells #[.slice p n cap, .slice q N c2, .slice r S c3] 26) = w1 at *
  obtain ⟨k0, k1, k2⟩ := bx3 X1.out
  go_upto_region 2 with (go_at_call 10; refine HT.out.mono ?_; rintro e w2 ⟨v, rfl, hB, hv⟩; have B2 := hid (below_on B1.out hB); have V := hid hv; clear hB hv HT)
  rcases V.out with ⟨h3, g, rfl, h4, h5, h6, h7⟩ | ⟨h3, rfl⟩
  · have c := CO.out h3
    subst c
    have h3' : T3 = 0 := h3
    subst h3'
    have n1 := LN.out rfl
    have MA := hid (cmax_any T1 (n + 1) (n + 1) g _ h5 h6 (by omega) (by omega) (FI.out rfl))
    clear V CO CN FI LN h4 h5 h6 h7 h3 k0 k1 k2
    go_wp2_with (go_at_call 14; refine MA.out.mono ?_; rintro e w3 ⟨rfl, rfl⟩)
    go_ret3
    exact ⟨rfl, B2.out⟩
  · have c := CN.out h3
    subst c
    have h3' : T3 = 260 := h3
    subst h3'
    clear V CO CN FI LN h3 k0 k1 k2
    go_wp2_with fail
    go_ret3
    exact ⟨rfl, B2.out⟩
end Go.Proofs.YtnobafmleellhabDoor
