/-
  THE WALK OF NumeralHex.
-/
import Derived.Test.YtdolimhddmddnaaDoorNHexs
import Derived.OwnWalk
import Derived.Deep.LoopGhost
namespace Go.Proofs.YtdolimhddmddnaaDoor
open Go.RowKit Go.Deep

theorem row8_empty (w : World) (base : Nat) (hb : base ≤ w.heap.size) : Row8 base (w.alloc (.cells #[] 5)) (.slice (some ⟨w.heap.size, 0, none⟩) 0 0) [] := by
  refine ⟨rfl, .inr ⟨w.heap.size, 0, #[], rfl, hb, ?_, Nat.le_refl _, by simp only [maxLen]; omega, rfl, rfl⟩⟩
  show (w.heap.push _)[w.heap.size]? = _
  rw [Array.getElem?_push, if_pos rfl]

theorem sixteen (h : Nat) : (16 : Int) ^ h = 2 ^ (4 * h) := by rw [Int.pow_mul]; rfl

theorem hexS_at : ∀ k : Fin 16, ((⟨#[48, 49, 50, 51, 52, 53, 54, 55, 56, 57, 65, 66, 67, 68, 69, 70]⟩ : ByteArray)[k.val]'k.isLt).toNat = (capL.getD k.val 0).toNat ∧ 0 ≤ capL.getD k.val 0 := by decide

/-- What both rows hold at the end. -/
structure Ends (T : Nat) (V : Int) (za hs ts : List Int) : Prop where
  hex : ∀ xs E, InIs za 16 true xs E → E = 0 ∧ xs = hs
  two : ∀ xs E, InIs za 2 false xs E → E = 0 ∧ xs = ts
  hne : hs ≠ []
  tne : ts ≠ []
  hb : ∀ x ∈ hs, 0 ≤ x ∧ x < 256
  tb : ∀ x ∈ ts, 0 ≤ x ∧ x < 256

theorem lets_b {up : Bool} {ds : List Int} : ∀ x ∈ lets (lettersOf up) ds, 0 ≤ x ∧ x < 256 := by
  intro x hx
  obtain ⟨d, _, rfl⟩ := List.mem_map.1 hx
  cases up with
  | true => exact (show Str ⟨#[48, 49, 50, 51, 52, 53, 54, 55, 56, 57, 65, 66, 67, 68, 69, 70, 71, 72, 73, 74, 75, 76, 77, 78, 79, 80, 81, 82, 83, 84, 85, 86, 87, 88, 89, 90]⟩ capL from rfl).atb _
  | false => exact (show Str ⟨#[48, 49, 50, 51, 52, 53, 54, 55, 56, 57, 97, 98, 99, 100, 101, 102, 103, 104, 105, 106, 107, 108, 109, 110, 111, 112, 113, 114, 115, 116, 117, 118, 119, 120, 121, 122]⟩ smallL from rfl).atb _

theorem ends_zero {za : List Int} (h : Nm.tsize za = 0) : Ends 0 0 za [48] [48] := by
  refine ⟨fun xs E k => ?_, fun xs E k => ?_, by simp, by simp, fun x hx => by simp at hx; omega, fun x hx => by simp at hx; omega⟩
  · cases k with
    | big k => omega
    | base _ k => omega
    | zero _ _ _ => exact ⟨rfl, rfl⟩
    | ok L k _ _ _ _ => omega
  · cases k with
    | big k => omega
    | base _ k => omega
    | zero _ _ _ => exact ⟨rfl, rfl⟩
    | ok L k _ _ _ _ => omega

theorem ends_ok {za : List Int} {T : Nat} {V : Int} (hz : Nm.Limbs za) (hV : Nm.val za = V) (hT : Nm.tsize za = T) (h0 : 0 < T) (h1 : T ≤ 4096) : Ends T V za (lets capL (Dn.dAt 16 V (16 * T) 0)) (lets smallL (Dn.dAt 2 V (64 * T) 0)) := by
  have hv0 : 0 ≤ V := by rw [← hV]; exact (Nm.val_bd za hz).1
  have hvz : V ≠ 0 := fun c => by
    have := (Nm.tsize_zero_iff hz).2 (by rw [hV]; exact c)
    omega
  have v2 : V < 2 ^ (64 * T) := by
    have := (Nm.tsize_le_iff hz T).1 (by omega)
    rw [hV, Nm.pw_two] at this
    exact this
  have v16 : V < 16 ^ (16 * T) := by rw [sixteen, show 4 * (16 * T) = 64 * T by omega]; exact v2
  rw [Dn.dAt_low, Dn.dAt_low]
  have n16 : Dn.strip (Dn.dg 16 (16 * T) V) ≠ [] := Dn.strip_ne (B := 16) (by rw [Dn.tv_dg (by omega) _ _ hv0 v16]; exact hvz)
  have n2 : Dn.strip (Dn.dg 2 (64 * T) V) ≠ [] := Dn.strip_ne (B := 2) (by rw [Dn.tv_dg (by omega) _ _ hv0 v2]; exact hvz)
  refine ⟨fun xs E k => ?_, fun xs E k => ?_, fun c => n16 (by simpa [lets] using c), fun c => n2 (by simpa [lets] using c), lets_b (up := true), lets_b (up := false)⟩
  · cases k with
    | big k => omega
    | base _ k => omega
    | zero k _ _ => omega
    | ok L _ _ _ _ hL =>
      rw [hV] at hL ⊢
      exact ⟨rfl, by rw [Dn.strip_dg (by omega) hv0 hL v16]; rfl⟩
  · cases k with
    | big k => omega
    | base _ k => omega
    | zero k _ _ => omega
    | ok L _ _ _ _ hL =>
      rw [hV] at hL ⊢
      exact ⟨rfl, by rw [Dn.strip_dg (by omega) hv0 hL v2]; rfl⟩

set_option maxRecDepth 100000 in
set_option maxHeartbeats 8000000 in
theorem hex_any (p : Option Addr) (n cap : Nat) (za : List Int) (w : World) (ha : Arg w p n cap za) :
    Calls Tryd.prog 5 #[.slice p n cap] w fun e w' => e = .returned (.bool true) ∧ Below w.heap.size w w' := by
  have HA := hid ha
  have AW := hid (awake3_any w)
  obtain ⟨T, HT⟩ : ∃ T, Hid (Nm.tsize za = T) := ⟨_, rfl⟩
  obtain ⟨V, HV⟩ : ∃ V, Hid (Nm.val za = V) := ⟨_, rfl⟩
  have CI : Hid (∀ (B : Int) (up : Bool) (W : World), 2 ≤ B → B ≤ 36 → Below w.heap.size w W → Calls Tryd.prog 9 #[.slice p n cap] W fun e w' => e = .returned (.slice (some ⟨W.heap.size, 0, none⟩) n n) ∧ Hid (Below W.heap.size W w' ∧ Calls Tryd.prog 8 #[.slice (some ⟨W.heap.size, 0, none⟩) n n, .int .i64 B, .bool up] w' fun e w'' => ∃ s xs E, e = .returned (.tuple #[.string s, .int .i64 E]) ∧ Str s xs ∧ InIs za B up xs E ∧ Below w'.heap.size w' w'')) := by
    intro B up W h2 h36 hb
    refine (copied3_any p n cap za W (HA.out.below hb (Nat.le_refl _))).mono ?_
    rintro e w' ⟨rfl, o2, d2, s2⟩
    exact ⟨rfl, d2, inBase_any (some ⟨W.heap.size, 0, none⟩) n n za B up w' ⟨HA.out.1, Nat.le_refl _, by have := HA.out.2.1; have := HA.out.2.2.1; omega, o2.lies, HA.out.2.2.2.2⟩ (by omega) (by omega)⟩
  clear ha
  go_enter Tryd.func5, Tryd.ntmps5
  go_wp2_with fail
  refine AW.out.mono ?_
  rintro e w1 ⟨rfl, d1⟩
  have D1 := hid d1
  have TR := hid (trimmed3_any p n cap za w1 (HA.out.below d1 (Nat.le_refl _)))
  rw [HT.out] at TR
  clear d1 AW
  go_wp2_with fail
  refine TR.out.mono ?_
  rintro e w2 ⟨rfl, o2, d2, s2⟩
  have O2 := hid o2
  have D2 := hid (chain D1.out d2 (Nat.le_refl _))
  clear o2 d2 s2 TR
  by_cases hbig : 4096 < T
  · have hTi : (4096 : Int) < (T : Int) := by omega
    have CP := hid (copied3_any p n cap za w2 (HA.out.below D2.out (Nat.le_refl _)))
    have HB := hid hbig
    clear hbig CI
    go_wp2_with fail
    refine CP.out.mono ?_
    rintro e w3 ⟨rfl, o3, d3, s3⟩
    have D3 := hid (chain D2.out d3 (Nat.le_refl _))
    have IB := hid (inBase_any (some ⟨w2.heap.size, 0, none⟩) n n za 16 true w3 ⟨HA.out.1, Nat.le_refl _, by have := HA.out.2.1; have := HA.out.2.2.1; omega, o3.lies, HA.out.2.2.2.2⟩ (by omega) (by omega))
    clear o3 d3 s3 CP
    go_wp2_with fail
    refine IB.out.mono ?_
    rintro e w4 ⟨s, xs, E, rfl, hs, hi, d4⟩
    have hE : E = 2 := by
      cases hi with
      | big _ => rfl
      | base h _ => have := HT.out; have := HB.out; omega
      | zero h _ _ => have := HT.out; have := HB.out; omega
      | ok L _ h _ _ _ => have := HT.out; have := HB.out; omega
    subst hE
    have D4 := hid (chain D3.out d4 (Nat.le_refl _))
    clear hs hi d4 IB
    go_wp2_with fail
    go_ret
    exact ⟨rfl, D4.out⟩
  have hTi : (T : Int) ≤ 4096 := by omega
  have hT4 : Hid (T ≤ 4096) := by show _ ≤ _; omega
  have r1 := row8_empty w2 w2.heap.size (Nat.le_refl _)
  have sz1 : (w2.alloc (.cells #[] 5)).heap.size = w2.heap.size + 1 := World.size_alloc _ _
  have r2 := row8_empty (w2.alloc (.cells #[] 5)) w2.heap.size (by rw [sz1]; omega)
  have b1 : Below w2.heap.size w2 (w2.alloc (.cells #[] 5)) := (Below.refl _ _).alloc (Nat.le_refl _) _
  have b2 : Below (w2.alloc (.cells #[] 5)).heap.size (w2.alloc (.cells #[] 5)) ((w2.alloc (.cells #[] 5)).alloc (.cells #[] 5)) := (Below.refl _ _).alloc (Nat.le_refl _) _
  have B0 : Hid (Duo w2.heap.size T V (some ⟨w2.heap.size, 0, none⟩) 0 0 (some ⟨w2.heap.size + 1, 0, none⟩) 0 0 (16 * T) (64 * T) w2 ((w2.alloc (.cells #[] 5)).alloc (.cells #[] 5)) ∧ w2.heap.size ≤ ((w2.alloc (.cells #[] 5)).alloc (.cells #[] 5)).heap.size) := by
    refine ⟨⟨?_, ?_, .inl (by simp [Value.ownBlock]), chain b1 b2 (Nat.le_refl _)⟩, by rw [World.size_alloc, sz1]; omega⟩
    · rw [Dn.dAt_top]
      exact r1.below b2
    · rw [Dn.dAt_top]
      rw [sz1] at r2
      exact r2
  have CE : Hid (∀ (i : Nat), i < T → ∃ z, (∀ wr : World, Below w2.heap.size w2 wr → wr.cell? ⟨w1.heap.size, i, none⟩ = some (.int .u64 z)) ∧ 0 ≤ z ∧ z < 18446744073709551616 ∧ Hid (∀ r s, r + s ≤ 64 → V / 2 ^ (64 * i + r) % 2 ^ s = z / 2 ^ r % 2 ^ s)) := by
    intro i hi
    have hlt : i < (Nm.trim za).length := by rw [Nm.trim_length]; have := HT.out; omega
    have hg : w1.heap.size < w2.heap.size := O2.out.lt
    have lim := HA.out.2.2.2.2.trim
    refine ⟨(Nm.trim za).getD i 0, fun wr hb => (hb.cell (p := ⟨w1.heap.size, i, none⟩) hg).trans (O2.out.cell i hlt), (lim.at i).1, (lim.at i).2, fun r s hrs => ?_⟩
    rw [← Dn.part_at (Nm.trim za) (64 * i + r) i r s rfl hrs lim hlt, Nm.val_trim, HV.out]
  clear r1 r2 b1 b2 hbig sz1
  go_wp2_with fail
  go_loopg [7, 8, 9, 10, 11, 12] T (fun x a b i _ _ _ wr => ∃ (ph : Option Addr) (lh ch : Nat) (pt : Option Addr) (lt ct : Nat), a = .slice ph lh ch ∧ b = .slice pt lt ct ∧ i = .int .i64 ((x : Int) - 1) ∧ x ≤ T ∧ Hid (Duo w2.heap.size T V ph lh ch pt lt ct (16 * x) (64 * x) w2 wr ∧ w2.heap.size ≤ wr.heap.size))
  case atStart => exact ⟨_, 0, 0, _, 0, 0, rfl, rfl, rfl, Nat.le_refl _, B0.out⟩
  case round =>
    clear B0
    obtain ⟨ph, lh, ch, pt, lt, ct, rfl, rfl, rfl, hx, I⟩ := hrel
    cases gk with
    | zero =>
      have E0 : Hid (Duo w2.heap.size T V ph lh ch pt lt ct 0 0 w2 wr ∧ w2.heap.size ≤ wr.heap.size) := I.out
      clear I
      have FIN : Hid (∀ (W : World) (q1 q2 : Option Addr) (l1 c1 l2 c2 : Nat) (hs ts : List Int), Row8 w2.heap.size W (.slice q1 l1 c1) hs → Row8 w2.heap.size W (.slice q2 l2 c2) ts → Ends T V za hs ts → Below w2.heap.size w2 W →
          ∃ g1 g2, q1 = some ⟨g1, 0, none⟩ ∧ q2 = some ⟨g2, 0, none⟩ ∧ ∀ W', Below W.heap.size W W' → (convert 35 9 (.slice (some ⟨g1, 0, none⟩) l1 c1)).run Tryd.prog W' = .ok (.string (strOfNums hs)) W' ∧ (convert 35 9 (.slice (some ⟨g2, 0, none⟩) l2 c2)).run Tryd.prog W' = .ok (.string (strOfNums ts)) W') := by
        intro W q1 q2 l1 c1 l2 c2 hs ts r1 r2 en _
        obtain ⟨g1, k1, e1, _⟩ := r1.cells en.hne
        obtain ⟨g2, k2, e2, _⟩ := r2.cells en.tne
        simp only [Value.slice.injEq] at e1 e2
        obtain ⟨rfl, rfl, rfl⟩ := e1
        obtain ⟨rfl, rfl, rfl⟩ := e2
        refine ⟨g1, g2, rfl, rfl, fun W' hb => ⟨?_, ?_⟩⟩
        · obtain ⟨g, k, e, cs⟩ := (r1.below hb).cells en.hne
          simp only [Value.slice.injEq, Option.some.injEq] at e
          obtain ⟨e, _, _⟩ := e
          cases e
          exact run_convert_bytes_arg (P := Tryd.prog) W' 35 5 Tryd.underlying35 Tryd.underlying5 g1 0 _ _ hs rfl cs 9 Tryd.underlying9
        · obtain ⟨g, k, e, cs⟩ := (r2.below hb).cells en.tne
          simp only [Value.slice.injEq, Option.some.injEq] at e
          obtain ⟨e, _, _⟩ := e
          cases e
          exact run_convert_bytes_arg (P := Tryd.prog) W' 35 5 Tryd.underlying35 Tryd.underlying5 g2 0 _ _ ts rfl cs 9 Tryd.underlying9
      by_cases hT0 : T = 0
      · have tz : Nm.tsize za = 0 := by have := HT.out; omega
        have vz : V = 0 := by rw [← HV.out]; exact (Nm.tsize_zero_iff HA.out.2.2.2.2).1 tz
        have EN := hid (ends_zero tz)
        subst hT0
        subst vz
        have l1 := E0.out.1.hex.len
        have l2 := E0.out.1.two.len
        have n1 : lets capL (Dn.dAt 16 0 (16 * 0) 0) = [] := by rw [show (16 * 0 : Nat) = 0 from rfl, Dn.dAt_top]; rfl
        have n2 : lets smallL (Dn.dAt 2 0 (64 * 0) 0) = [] := by rw [show (64 * 0 : Nat) = 0 from rfl, Dn.dAt_top]; rfl
        have r1 := E0.out.1.hex
        have r2 := E0.out.1.two
        rw [n1] at r1 l1
        rw [n2] at r2 l2
        obtain ⟨mv1, wa, ap1, ra, za1, ba, ka⟩ := r1.push 48 (by simp) E0.out.2
        obtain ⟨q1, c1, hm1⟩ := ra.shape
        have hm1 : mv1 = .slice q1 1 c1 := hm1
        subst hm1
        have r2a : Row8 w2.heap.size wa (.slice pt lt ct) [] := r2.move (fun g hg => ka g (r2.blk hg) (fun c => by
          rcases E0.out.1.ne with n | n
          · exact n (by rw [← c, hg])
          · rw [n] at c; cases c))
        obtain ⟨mv2, wb, ap2, rb, zb, bb, kb⟩ := r2a.push 48 (by simp) (by have := E0.out.2; omega)
        obtain ⟨q2, c2, hm2⟩ := rb.shape
        have hm2 : mv2 = .slice q2 1 c2 := hm2
        subst hm2
        have rab : Row8 w2.heap.size wb (.slice q1 1 c1) [48] := ra.move (fun g hg => kb g (ra.blk hg) (fun c => by
          have pp := r1.place 48 (by simp) ap1 g hg
          rcases pp with d | d
          · rcases E0.out.1.ne with n | n
            · exact n (by rw [d, c])
            · rw [n] at d; cases d
          · have := r2.blk c.symm
            omega))
        have AP1 := hid ap1
        have AP2 := hid ap2
        have BW : Hid (Below w2.heap.size w2 wb) := (E0.out.1.bel.trans ba).trans bb
        obtain ⟨g1, g2, hg1, hg2, CV⟩ := FIN.out wb q1 q2 1 c1 1 c2 [48] [48] rab rb EN.out BW.out
        subst hg1
        subst hg2
        have CVH := hid CV
        have C1 := hid (CI.out 16 true wb (by omega) (by omega) (D2.out.trans (BW.out.mono D2.out.size)))
        obtain rfl : lh = 0 := by simpa using l1.symm
        obtain rfl : lt = 0 := by simpa using l2.symm
        clear r1 r2 ra r2a rb rab ka kb ba bb za1 zb ap1 ap2 CV n1 n2 l1 l2 E0 CE tz FIN
        go_wp2_with (first | (at_builtin; refine wpList_append_b rfl _ _ rfl AP1.out (by rfl) (by rfl) ?_; clear AP1) | (at_builtin; refine wpList_append_b rfl _ _ rfl AP2.out (by rfl) (by rfl) ?_; clear AP2))
        refine C1.out.mono ?_
        rintro e w3 ⟨rfl, F3⟩
        have D3 := hid F3.out.1
        clear C1
        go_wp2_with fail
        refine F3.out.2.mono ?_
        rintro e w4 ⟨s1, xs1, E1, rfl, hs1, hi1, d4⟩
        obtain ⟨rfl, rfl⟩ := EN.out.hex xs1 E1 hi1
        have D4 := hid (chain D3.out d4 (Nat.le_refl _))
        have S1 := hid hs1
        have C2 := hid (CI.out 2 false w4 (by omega) (by omega) ((D2.out.trans (BW.out.mono D2.out.size)).trans (D4.out.mono (Nat.le_trans D2.out.size BW.out.size))))
        clear hs1 hi1 d4 F3 D3
        go_wp2_with fail
        refine C2.out.mono ?_
        rintro e w5 ⟨rfl, F5⟩
        have D5 := hid (chain D4.out F5.out.1 (Nat.le_refl _))
        clear C2 D4
        go_wp2_with fail
        refine F5.out.2.mono ?_
        rintro e w6 ⟨s2, xs2, E2, rfl, hs2, hi2, d6⟩
        obtain ⟨rfl, rfl⟩ := EN.out.two xs2 E2 hi2
        have D6 := hid (chain D5.out d6 (Nat.le_refl _))
        obtain ⟨cv1, cv2⟩ := CVH.out w6 D6.out
        obtain rfl : s1 = strOfNums _ := S1.out.inj (Str.of_nums EN.out.hb)
        obtain rfl : s2 = strOfNums _ := hs2.inj (Str.of_nums EN.out.tb)
        have D7 : Hid (Below w.heap.size w w6) := (D2.out.trans (BW.out.mono D2.out.size)).trans (D6.out.mono (Nat.le_trans D2.out.size BW.out.size))
        clear hs2 hi2 d6 F5 D5 CVH S1 EN
        go_wp2_with fail
        go_ret
        exact ⟨rfl, D7.out⟩
      · have tp : 0 < T := by omega
        have EN := hid (ends_ok HA.out.2.2.2.2 HV.out HT.out tp hT4.out)
        have hTz : ((T : Int) == 0) = false := by rw [beq_eq_false_iff_ne]; omega
        obtain ⟨g1, g2, hg1, hg2, CV⟩ := FIN.out wr ph pt lh ch lt ct _ _ E0.out.1.hex E0.out.1.two EN.out E0.out.1.bel
        subst hg1
        subst hg2
        have CVH := hid CV
        have BW := hid E0.out.1.bel
        have C1 := hid (CI.out 16 true wr (by omega) (by omega) (D2.out.trans (BW.out.mono D2.out.size)))
        clear CV E0 CE FIN tp hT0
        go_wp2_with fail
        refine C1.out.mono ?_
        rintro e w3 ⟨rfl, F3⟩
        have D3 := hid F3.out.1
        clear C1
        go_wp2_with fail
        refine F3.out.2.mono ?_
        rintro e w4 ⟨s1, xs1, E1, rfl, hs1, hi1, d4⟩
        obtain ⟨rfl, rfl⟩ := EN.out.hex xs1 E1 hi1
        have D4 := hid (chain D3.out d4 (Nat.le_refl _))
        have S1 := hid hs1
        have C2 := hid (CI.out 2 false w4 (by omega) (by omega) ((D2.out.trans (BW.out.mono D2.out.size)).trans (D4.out.mono (Nat.le_trans D2.out.size BW.out.size))))
        clear hs1 hi1 d4 F3 D3
        go_wp2_with fail
        refine C2.out.mono ?_
        rintro e w5 ⟨rfl, F5⟩
        have D5 := hid (chain D4.out F5.out.1 (Nat.le_refl _))
        clear C2 D4
        go_wp2_with fail
        refine F5.out.2.mono ?_
        rintro e w6 ⟨s2, xs2, E2, rfl, hs2, hi2, d6⟩
        obtain ⟨rfl, rfl⟩ := EN.out.two xs2 E2 hi2
        have D6 := hid (chain D5.out d6 (Nat.le_refl _))
        obtain ⟨cv1, cv2⟩ := CVH.out w6 D6.out
        obtain rfl : s1 = strOfNums _ := S1.out.inj (Str.of_nums EN.out.hb)
        obtain rfl : s2 = strOfNums _ := hs2.inj (Str.of_nums EN.out.tb)
        have D7 : Hid (Below w.heap.size w w6) := (D2.out.trans (BW.out.mono D2.out.size)).trans (D6.out.mono (Nat.le_trans D2.out.size BW.out.size))
        clear hs2 hi2 d6 F5 D5 CVH S1 EN
        go_wp2_with fail
        go_ret
        exact ⟨rfl, D7.out⟩
    | succ i =>
      rw [show ((i + 1 : Nat) : Int) - 1 = (i : Int) by omega]
      have hiT : (i : Int) < (T : Int) := by omega
      have hi4 : (i : Int) ≤ 4096 := by omega
      have I0 : Hid (Duo w2.heap.size T V ph lh ch pt lt ct (16 * i + (64 + 3) / 4) (64 * i + 64) w2 wr ∧ w2.heap.size ≤ wr.heap.size) := by
        rw [show 16 * i + (64 + 3) / 4 = 16 * (i + 1) by omega, show 64 * i + 64 = 64 * (i + 1) by omega]
        exact I.out
      clear I
      go_wp2_with fail
      go_loopg [7, 8, 10, 11, 12] 64 (fun y a b k _ _ wr => ∃ (ph : Option Addr) (lh ch : Nat) (pt : Option Addr) (lt ct : Nat), a = .slice ph lh ch ∧ b = .slice pt lt ct ∧ k = .int .i64 ((y : Int) - 1) ∧ y ≤ 64 ∧ Hid (Duo w2.heap.size T V ph lh ch pt lt ct (16 * i + (y + 3) / 4) (64 * i + y) w2 wr ∧ w2.heap.size ≤ wr.heap.size))
      case atStart => exact ⟨ph, lh, ch, pt, lt, ct, rfl, rfl, rfl, Nat.le_refl _, I0.out⟩
      case round =>
        clear I0
        obtain ⟨ph, lh, ch, pt, lt, ct, rfl, rfl, rfl, hy, I⟩ := hrel
        cases gk with
        | zero =>
          have I2 : Hid (Duo w2.heap.size T V ph lh ch pt lt ct (16 * i) (64 * i) w2 wr ∧ w2.heap.size ≤ wr.heap.size) := by
            have h := I.out
            rw [show 16 * i + (0 + 3) / 4 = 16 * i by omega, show 64 * i + 0 = 64 * i by omega] at h
            exact h
          clear I
          go_wp2_with fail
          go_roundg i
          case measure => omega
          case rel => exact ⟨ph, lh, ch, pt, lt, ct, rfl, rfl, by go_num, by omega, I2.out⟩
        | succ s =>
          rw [show ((s + 1 : Nat) : Int) - 1 = (s : Int) by omega]
          have hs63 : (s : Int) ≤ 63 := by omega
          have hs6 : s ≤ 63 := by omega
          obtain ⟨z, hzc, hz0, hz1, PA⟩ := CE.out i (by omega)
          have hz := hzc wr I.out.1.bel
          have HZC := hid hzc
          clear hzc
          have q0 : 0 ≤ z / 2 ^ s := Int.ediv_nonneg hz0 (by have := Nm.two_pos s; omega)
          have q1 : z / 2 ^ s < 18446744073709551616 := by have : z / 2 ^ s ≤ z := Int.ediv_le_self _ hz0; omega
          obtain ⟨y, hyz⟩ : ∃ y, z / 2 ^ s = y := ⟨_, rfl⟩
          rw [hyz] at q0 q1
          obtain ⟨y8, h8⟩ : ∃ y8, y % 256 = y8 := ⟨_, rfl⟩
          have w8 : IntKind.u8.wrap y = y8 := by rw [IntKind.wrap_u8]; exact h8
          have y80 : 0 ≤ y8 := by omega
          have y81 : y8 < 256 := by omega
          obtain ⟨b, hb⟩ : ∃ b, y8 % 2 = b := ⟨_, rfl⟩
          have hb2 : y8.tmod 2 = b := by rw [Int.tmod_eq_emod_of_nonneg y80]; exact hb
          obtain ⟨d, hd⟩ : ∃ d, y8 % 16 = d := ⟨_, rfl⟩
          have hd2 : y8.tmod 16 = d := by rw [Int.tmod_eq_emod_of_nonneg y80]; exact hd
          have hd0 : 0 ≤ d := by omega
          have hd1 : d < 16 := by omega
          obtain ⟨m4, hm4⟩ : ∃ m4, (s : Int) % 4 = m4 := ⟨_, rfl⟩
          have hm42 : (s : Int).tmod 4 = m4 := by rw [Int.tmod_eq_emod_of_nonneg (by omega)]; exact hm4
          have VB : Hid (V / 2 ^ (64 * i + s) % 2 = b) := by
            have h := PA.out s 1 (by omega)
            rw [hyz, Int.pow_succ, Int.pow_zero, Int.one_mul] at h
            show _ = _
            omega
          have VD : Hid (m4 = 0 → V / 16 ^ (16 * i + s / 4) % 16 = d) := by
            intro c
            have h := PA.out s 4 (by omega)
            rw [hyz, show (2 : Int) ^ 4 = 16 by decide, show 64 * i + s = 4 * (16 * i + s / 4) by omega, ← sixteen] at h
            omega
          have hh16 : Hid (s + 1 + 3 = s + 4) := rfl
          have xd := hexS_at ⟨d.toNat, by omega⟩
          obtain ⟨x, HX⟩ : ∃ x, Hid (x = capL.getD d.toNat 0) := ⟨_, rfl⟩
          have hx : ∀ h : d.toNat < (⟨#[48, 49, 50, 51, 52, 53, 54, 55, 56, 57, 65, 66, 67, 68, 69, 70]⟩ : ByteArray).size, (((⟨#[48, 49, 50, 51, 52, 53, 54, 55, 56, 57, 65, 66, 67, 68, 69, 70]⟩ : ByteArray)[d.toNat]'h).toNat : Int) = x := fun h => by
            have e := xd.1
            simp only at e
            rw [e, HX.out]
            have := xd.2
            simp only at this
            omega
          have hsz16 : (⟨#[48, 49, 50, 51, 52, 53, 54, 55, 56, 57, 65, 66, 67, 68, 69, 70]⟩ : ByteArray).size = 16 := rfl
          have h64 : 64 * i + s + 1 ≤ 64 * T := by omega
          clear xd PA
          rcases (show b = 1 ∨ (b = 0 ∧ 0 < lt) ∨ (b = 0 ∧ ¬ 0 < lt) by omega) with hb1 | ⟨hb1, hl⟩ | ⟨hb1, hl⟩
          · subst hb1
            have J0 : Duo w2.heap.size T V ph lh ch pt lt ct (16 * i + (s + 1 + 3) / 4) (64 * i + s + 1) w2 wr := I.out.1
            obtain ⟨pt1, lt1, ct1, wx, ap1, J1, z1⟩ := J0.bit hT4.out h64 I.out.2 VB.out (.inl (by omega)) (by omega) (by omega) (x := 49) rfl
            have AP1 := hid ap1
            have J := hid J1
            have Z := hid z1
            have hzx := HZC.out wx J1.bel
            clear J0 ap1 J1 z1 I
            by_cases h4 : m4 = 0
            · have e1 : 16 * i + (s + 1 + 3) / 4 = 16 * i + s / 4 + 1 := by omega
              have e2 : 16 * i + s / 4 = 16 * i + (s + 3) / 4 := by omega
              have h16 : 16 * i + s / 4 + 1 ≤ 16 * T := by omega
              have vd := VD.out h4
              have hm0 : (m4 == 0) = true := by rw [beq_iff_eq]; exact h4
              rw [e1] at J
              by_cases hdz : d = 0
              · exact absurd hdz (by omega)
              · have hd00 : (d == 0) = false := by rw [beq_eq_false_iff_ne]; exact hdz
                obtain ⟨ph2, lh2, ch2, wy, ap2, J2, z2⟩ := J.out.four hT4.out h16 Z.out vd (.inl hdz) HX.out
                rw [e2] at J2
                have AP2 := hid ap2
                have JJ := hid (And.intro J2 z2)
                have hdp : 0 < d := by omega
                clear ap2 J2 z2 vd e1 e2 J Z h4
                go_wp2_with (first | (at_builtin; refine wpList_append_b rfl _ _ rfl AP1.out (by rfl) (by rfl) ?_; clear AP1) | (at_builtin; refine wpList_append_b rfl _ _ rfl AP2.out (by rfl) (by rfl) ?_; clear AP2))
                go_roundg s
                case measure => omega
                case rel => exact ⟨ph2, lh2, ch2, pt1, lt1, ct1, rfl, rfl, by go_num, by omega, JJ.out⟩
            · have hm0 : (m4 == 0) = false := by rw [beq_eq_false_iff_ne]; exact h4
              have e1 : 16 * i + (s + 1 + 3) / 4 = 16 * i + (s + 3) / 4 := by omega
              rw [e1] at J
              have JJ := hid (And.intro J.out Z.out)
              clear e1 J Z h4
              go_wp2_with (at_builtin; refine wpList_append_b rfl _ _ rfl AP1.out (by rfl) (by rfl) ?_; clear AP1)
              go_roundg s
              case measure => omega
              case rel => exact ⟨ph, lh, ch, pt1, lt1, ct1, rfl, rfl, by go_num, by omega, JJ.out⟩
          · subst hb1
            have J0 : Duo w2.heap.size T V ph lh ch pt lt ct (16 * i + (s + 1 + 3) / 4) (64 * i + s + 1) w2 wr := I.out.1
            obtain ⟨pt1, lt1, ct1, wx, ap1, J1, z1⟩ := J0.bit hT4.out h64 I.out.2 VB.out (.inr hl) (by omega) (by omega) (x := 48) rfl
            have hli : (0 : Int) < (lt : Int) := by omega
            have AP1 := hid ap1
            have J := hid J1
            have Z := hid z1
            have hzx := HZC.out wx J1.bel
            clear J0 ap1 J1 z1 I
            by_cases h4 : m4 = 0
            · have e1 : 16 * i + (s + 1 + 3) / 4 = 16 * i + s / 4 + 1 := by omega
              have e2 : 16 * i + s / 4 = 16 * i + (s + 3) / 4 := by omega
              have h16 : 16 * i + s / 4 + 1 ≤ 16 * T := by omega
              have vd := VD.out h4
              have hm0 : (m4 == 0) = true := by rw [beq_iff_eq]; exact h4
              rw [e1] at J
              by_cases hdz : d = 0
              · clear hx hsz16 HX
                subst hdz
                have hx : ∀ h : 0 < (⟨#[48, 49, 50, 51, 52, 53, 54, 55, 56, 57, 65, 66, 67, 68, 69, 70]⟩ : ByteArray).size, (((⟨#[48, 49, 50, 51, 52, 53, 54, 55, 56, 57, 65, 66, 67, 68, 69, 70]⟩ : ByteArray)[0]'h).toNat : Int) = 48 := fun _ => rfl
                by_cases hl4 : 0 < lh
                · have hl4i : (0 : Int) < (lh : Int) := by omega
                  obtain ⟨ph2, lh2, ch2, wy, ap2, J2, z2⟩ := J.out.four hT4.out h16 Z.out vd (.inr hl4) (x := 48) rfl
                  rw [e2] at J2
                  have AP2 := hid ap2
                  have JJ := hid (And.intro J2 z2)
                  clear ap2 J2 z2 vd e1 e2 J Z h4
                  go_wp2_with (first | (at_builtin; refine wpList_append_b rfl _ _ rfl AP1.out (by rfl) (by rfl) ?_; clear AP1) | (at_builtin; refine wpList_append_b rfl _ _ rfl AP2.out (by rfl) (by rfl) ?_; clear AP2))
                  go_roundg s
                  case measure => omega
                  case rel => exact ⟨ph2, lh2, ch2, pt1, lt1, ct1, rfl, rfl, by go_num, by omega, JJ.out⟩
                · obtain rfl : lh = 0 := by omega
                  have J2 := J.out.skip4 h16 vd
                  rw [e2] at J2
                  have JJ := hid (And.intro J2 Z.out)
                  clear J2 vd e1 e2 J Z h4
                  go_wp2_with (at_builtin; refine wpList_append_b rfl _ _ rfl AP1.out (by rfl) (by rfl) ?_; clear AP1)
                  go_roundg s
                  case measure => omega
                  case rel => exact ⟨ph, 0, ch, pt1, lt1, ct1, rfl, rfl, by go_num, by omega, JJ.out⟩
              · have hd00 : (d == 0) = false := by rw [beq_eq_false_iff_ne]; exact hdz
                obtain ⟨ph2, lh2, ch2, wy, ap2, J2, z2⟩ := J.out.four hT4.out h16 Z.out vd (.inl hdz) HX.out
                rw [e2] at J2
                have AP2 := hid ap2
                have JJ := hid (And.intro J2 z2)
                have hdp : 0 < d := by omega
                clear ap2 J2 z2 vd e1 e2 J Z h4
                go_wp2_with (first | (at_builtin; refine wpList_append_b rfl _ _ rfl AP1.out (by rfl) (by rfl) ?_; clear AP1) | (at_builtin; refine wpList_append_b rfl _ _ rfl AP2.out (by rfl) (by rfl) ?_; clear AP2))
                go_roundg s
                case measure => omega
                case rel => exact ⟨ph2, lh2, ch2, pt1, lt1, ct1, rfl, rfl, by go_num, by omega, JJ.out⟩
            · have hm0 : (m4 == 0) = false := by rw [beq_eq_false_iff_ne]; exact h4
              have e1 : 16 * i + (s + 1 + 3) / 4 = 16 * i + (s + 3) / 4 := by omega
              rw [e1] at J
              have JJ := hid (And.intro J.out Z.out)
              clear e1 J Z h4
              go_wp2_with (at_builtin; refine wpList_append_b rfl _ _ rfl AP1.out (by rfl) (by rfl) ?_; clear AP1)
              go_roundg s
              case measure => omega
              case rel => exact ⟨ph, lh, ch, pt1, lt1, ct1, rfl, rfl, by go_num, by omega, JJ.out⟩
          · subst hb1
            obtain rfl : lt = 0 := by omega
            have J0 : Duo w2.heap.size T V ph lh ch pt 0 ct (16 * i + (s + 1 + 3) / 4) (64 * i + s + 1) w2 wr := I.out.1
            have J := hid (J0.skip h64 VB.out)
            have Z := hid I.out.2
            clear J0 I
            by_cases h4 : m4 = 0
            · have e1 : 16 * i + (s + 1 + 3) / 4 = 16 * i + s / 4 + 1 := by omega
              have e2 : 16 * i + s / 4 = 16 * i + (s + 3) / 4 := by omega
              have h16 : 16 * i + s / 4 + 1 ≤ 16 * T := by omega
              have vd := VD.out h4
              have hm0 : (m4 == 0) = true := by rw [beq_iff_eq]; exact h4
              rw [e1] at J
              by_cases hdz : d = 0
              · clear hx hsz16 HX
                subst hdz
                have hx : ∀ h : 0 < (⟨#[48, 49, 50, 51, 52, 53, 54, 55, 56, 57, 65, 66, 67, 68, 69, 70]⟩ : ByteArray).size, (((⟨#[48, 49, 50, 51, 52, 53, 54, 55, 56, 57, 65, 66, 67, 68, 69, 70]⟩ : ByteArray)[0]'h).toNat : Int) = 48 := fun _ => rfl
                by_cases hl4 : 0 < lh
                · have hl4i : (0 : Int) < (lh : Int) := by omega
                  obtain ⟨ph2, lh2, ch2, wy, ap2, J2, z2⟩ := J.out.four hT4.out h16 Z.out vd (.inr hl4) (x := 48) rfl
                  rw [e2] at J2
                  have AP2 := hid ap2
                  have JJ := hid (And.intro J2 z2)
                  clear ap2 J2 z2 vd e1 e2 J Z h4
                  go_wp2_with (at_builtin; refine wpList_append_b rfl _ _ rfl AP2.out (by rfl) (by rfl) ?_; clear AP2)
                  go_roundg s
                  case measure => omega
                  case rel => exact ⟨ph2, lh2, ch2, pt, 0, ct, rfl, rfl, by go_num, by omega, JJ.out⟩
                · obtain rfl : lh = 0 := by omega
                  have J2 := J.out.skip4 h16 vd
                  rw [e2] at J2
                  have JJ := hid (And.intro J2 Z.out)
                  clear J2 vd e1 e2 J Z h4
                  go_wp2_with fail
                  go_roundg s
                  case measure => omega
                  case rel => exact ⟨ph, 0, ch, pt, 0, ct, rfl, rfl, by go_num, by omega, JJ.out⟩
              · have hd00 : (d == 0) = false := by rw [beq_eq_false_iff_ne]; exact hdz
                obtain ⟨ph2, lh2, ch2, wy, ap2, J2, z2⟩ := J.out.four hT4.out h16 Z.out vd (.inl hdz) HX.out
                rw [e2] at J2
                have AP2 := hid ap2
                have JJ := hid (And.intro J2 z2)
                have hdp : 0 < d := by omega
                clear ap2 J2 z2 vd e1 e2 J Z h4
                go_wp2_with (at_builtin; refine wpList_append_b rfl _ _ rfl AP2.out (by rfl) (by rfl) ?_; clear AP2)
                go_roundg s
                case measure => omega
                case rel => exact ⟨ph2, lh2, ch2, pt, 0, ct, rfl, rfl, by go_num, by omega, JJ.out⟩
            · have hm0 : (m4 == 0) = false := by rw [beq_eq_false_iff_ne]; exact h4
              have e1 : 16 * i + (s + 1 + 3) / 4 = 16 * i + (s + 3) / 4 := by omega
              rw [e1] at J
              have JJ := hid (And.intro J.out Z.out)
              clear e1 J Z h4
              go_wp2_with fail
              go_roundg s
              case measure => omega
              case rel => exact ⟨ph, lh, ch, pt, 0, ct, rfl, rfl, by go_num, by omega, JJ.out⟩
end Go.Proofs.YtdolimhddmddnaaDoor
