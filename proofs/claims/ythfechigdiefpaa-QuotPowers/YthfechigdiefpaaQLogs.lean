/-
  THE WALK OF layer 2's logs, AND QuotPowers WHOLE.
-/
import Derived.Test.YthfechigdiefpaaLogsSame
import Derived.Test.YthfechigdiefpaaPows
import Derived.Deep.RegionWith
import Derived.Deep.CutRange
import Derived.Deep.CutBlock
namespace Go.Proofs.Ythfechigdiefpaa
open Go.RowKit Go.Deep

theorem PHolds.belowL {w w' : World} {a : Option Addr} {its : List PIt} (h : PHolds w a its) (hb : Below w.heap.size w w') : PHolds w' a its := by
  rcases h with rfl | ⟨b, off, rfl, h⟩
  · exact .inl rfl
  · refine .inr ⟨b, off, rfl, fun i it hi => ?_⟩
    obtain ⟨h1, h2, h3⟩ := h i it hi
    exact ⟨by rw [hb.cell (p := ⟨b, off + i * 3, none⟩) (cell_lt h1)]; exact h1, by rw [hb.cell (p := ⟨b, off + i * 3 + 1, none⟩) (cell_lt h2)]; exact h2, by rw [hb.cell (p := ⟨b, off + i * 3 + 2, none⟩) (cell_lt h3)]; exact h3⟩

theorem PArg.belowL {w w' : World} {it : PIt} (h : PArg w it) (hb : Below w.heap.size w w') : PArg w' it := ⟨h.1.below hb (Nat.le_refl _), h.2.1.below hb (Nat.le_refl _), h.2.2⟩

/-- The list of bases, in a block of its own. -/
def Bases (w : World) (v : Value) : Prop := ∃ g bs cap, v = .slice (some ⟨g, 0, none⟩) (List.length bs) cap ∧ List.length bs ≤ 8 ∧ List.length bs ≤ cap ∧ Nm.Limbs bs ∧ Lies w (some ⟨g, 0, none⟩) bs

theorem Bases.below {w w' : World} {v : Value} (h : Bases w v) (hb : Below w.heap.size w w') : Bases w' v := by
  obtain ⟨g, bs, cap, h1, h2, h3, h4, h5⟩ := h
  exact ⟨g, bs, cap, h1, h2, h3, h4, h5.below hb (Nat.le_refl _)⟩

/-- Full: the list fills its block. -/
def Full (w : World) (v : Value) : Prop := ∃ g bs, v = .slice (some ⟨g, 0, none⟩) (List.length bs) (List.length bs) ∧ List.length bs ≤ 7 ∧ Nm.Limbs bs ∧ Own w g bs

theorem Full.bases {w : World} {v : Value} (h : Full w v) : Bases w v := by
  obtain ⟨g, bs, h1, h2, h3, h4⟩ := h
  exact ⟨g, bs, _, h1, by omega, Nat.le_refl _, h3, h4.lies⟩

/-- The box of the pair. -/
def Boxed (w0 w : World) (p1 : Option Addr) (n1 c1 : Nat) (p2 : Option Addr) (n2 c2 : Nat) : Prop :=
  w.cell? ⟨w0.heap.size, 0, none⟩ = some (.slice p1 n1 c1) ∧ w.cell? ⟨w0.heap.size, 1, none⟩ = some (.slice p2 n2 c2) ∧ Below w0.heap.size w0 w

theorem Boxed.below {w0 w w' : World} {p1 p2 : Option Addr} {n1 c1 n2 c2 : Nat} (h : Boxed w0 w p1 n1 c1 p2 n2 c2) (hb : Below w.heap.size w w') : Boxed w0 w' p1 n1 c1 p2 n2 c2 :=
  ⟨by rw [hb.cell (p := ⟨w0.heap.size, 0, none⟩) (cell_lt h.1)]; exact h.1, by rw [hb.cell (p := ⟨w0.heap.size, 1, none⟩) (cell_lt h.2.1)]; exact h.2.1, chain h.2.2 hb (Nat.le_refl _)⟩

theorem limbs7 : Nm.Limbs [0, 1, 2, 3, 10, 4294967296, 18446744073709551615] := by
  intro z hz
  simp only [List.mem_cons, List.not_mem_nil, or_false] at hz
  omega

set_option maxRecDepth 100000 in
set_option maxHeartbeats 4000000 in
theorem logs_true (it : PIt) (w : World) (hi : PArg w it) :
    Calls Try.prog 11 #[.agg #[.slice it.p1 it.n1 it.c1, .slice it.p2 it.n2 it.c2, .int .i64 it.N]] w fun e w' => e = .returned (.bool true) ∧ Below w.heap.size w w' := by
  obtain ⟨p1, n1, c1, z1, p2, n2, c2, z2, k⟩ := it
  obtain ⟨h1, h2, _⟩ := hi
  simp only at h1 h2 ⊢
  have hcB : (w.alloc (.cells #[.slice p1 n1 c1, .slice p2 n2 c2, .int .i64 k] 28)).heap[w.heap.size]? = some (.cells #[.slice p1 n1 c1, .slice p2 n2 c2, .int .i64 k] 28 (0, 0)) := by
    show (w.heap.push _)[w.heap.size]? = _
    rw [Array.getElem?_push, if_pos rfl]
  have bx0 : Boxed w (w.alloc (.cells #[.slice p1 n1 c1, .slice p2 n2 c2, .int .i64 k] 28)) p1 n1 c1 p2 n2 c2 :=
    ⟨by simp only [World.cell?, hcB]; rfl, by simp only [World.cell?, hcB]; rfl, (Below.refl _ _).alloc (Nat.le_refl _) _⟩
  obtain ⟨wB, hwB⟩ : ∃ wB, w.alloc (.cells #[.slice p1 n1 c1, .slice p2 n2 c2, .int .i64 k] 28) = wB := ⟨_, rfl⟩
  rw [hwB] at bx0
  have d1 : Below wB.heap.size wB (wB.alloc (.cells #[.int .u64 0, .int .u64 1, .int .u64 2, .int .u64 3, .int .u64 10, .int .u64 4294967296, .int .u64 18446744073709551615] 26)) := (Below.refl _ _).alloc (Nat.le_refl _) _
  have f1 : Full (wB.alloc (.cells #[.int .u64 0, .int .u64 1, .int .u64 2, .int .u64 3, .int .u64 10, .int .u64 4294967296, .int .u64 18446744073709551615] 26)) (.slice (some ⟨wB.heap.size, 0, none⟩) 7 7) :=
    ⟨wB.heap.size, [0, 1, 2, 3, 10, 4294967296, 18446744073709551615], rfl, by simp, limbs7, Own.alloc wB [0, 1, 2, 3, 10, 4294967296, 18446744073709551615]⟩
  obtain ⟨wC, hwC⟩ : ∃ wC, wB.alloc (.cells #[.int .u64 0, .int .u64 1, .int .u64 2, .int .u64 3, .int .u64 10, .int .u64 4294967296, .int .u64 18446744073709551615] 26) = wC := ⟨_, rfl⟩
  rw [hwC] at d1 f1
  have F1 := hid f1
  have SB : Hid (wB.heap.size = w.heap.size + 1) := by show _ = _; rw [← hwB]; exact World.size_alloc _ _
  have BX1 := hid (bx0.below d1)
  have c0 : wC.cell? ⟨w.heap.size, 0, none⟩ = some (.slice p1 n1 c1) := BX1.out.1
  have c1' : wC.cell? ⟨w.heap.size, 1, none⟩ = some (.slice p2 n2 c2) := BX1.out.2.1
  have HWB := hid hwB
  have HWC := hid hwC
  have HA := hid h1
  have HB := hid h2
  obtain ⟨N, HN⟩ : ∃ N, Hid (Nm.tsize z1 = N) := ⟨_, rfl⟩
  have TP := hid (top_isT N p1 n1 c1 z1 wC (h1.below BX1.out.2.2 (Nat.le_refl _)) HN.out)
  have hn2 : (0 : Int) ≤ (n2 : Int) := by omega
  clear h1 h2 hcB bx0 hwB hwC d1 f1
  go_enter Try.func11, Try.ntmps11
  go_wp2_with fail
  rw [HWB.out, HWC.out]
  refine TP.out.mono ?_
  rintro e w' ⟨rfl, rfl⟩
  clear HWB HWC TP
  go_upto_if 13 with fail
  go_cut [3] from 14 to 14 (fun s wx => ∃ v, s = v ∧ Hid (Full wx v ∧ Boxed w wx p1 n1 c1 p2 n2 c2))
  case first =>
    by_cases hbig : (256 : Int) < (N : Int)
    · have d1 : Below w'.heap.size w' (w'.alloc (.cells #[.int .u64 10] 26)) := (Below.refl _ _).alloc (Nat.le_refl _) _
      have F : Hid (Full (w'.alloc (.cells #[.int .u64 10] 26)) (.slice (some ⟨w'.heap.size, 0, none⟩) 1 1) ∧ Boxed w (w'.alloc (.cells #[.int .u64 10] 26)) p1 n1 c1 p2 n2 c2) :=
        ⟨⟨w'.heap.size, [10], rfl, by simp, limb_one (by omega), Own.alloc w' [10]⟩, BX1.out.below d1⟩
      clear d1 F1 BX1
      go_wp2_with fail
      go_meet
      exact ⟨_, rfl, F⟩
    · have hbig' : (N : Int) ≤ 256 := by omega
      have F : Hid (Full w' (.slice (some ⟨w.heap.size + 1, 0, none⟩) 7 7) ∧ Boxed w w' p1 n1 c1 p2 n2 c2) := ⟨by have := F1.out; rw [SB.out] at this; exact this, BX1.out⟩
      clear hbig F1 BX1
      go_wp2_with fail
      go_meet
      exact ⟨_, rfl, F⟩
  case rest =>
    clear F1 BX1 c0 c1'
    obtain ⟨v, hv, F2⟩ := hcut
    have hv := hv.symm
    subst hv
    have c0 : wc.cell? ⟨w.heap.size, 0, none⟩ = some (.slice p1 n1 c1) := F2.out.2.1
    have c1' : wc.cell? ⟨w.heap.size, 1, none⟩ = some (.slice p2 n2 c2) := F2.out.2.2.1
    go_upto_if 18 with fail
    go_cut [3] from 18 to 25 (fun s wx => ∃ v, s = v ∧ Hid (Bases wx v ∧ Boxed w wx p1 n1 c1 p2 n2 c2))
    case first =>
      by_cases h0 : 0 < n2
      · have h0i : (0 : Int) < (n2 : Int) := by omega
        obtain ⟨g, bs, hv, lb, Lb, ob⟩ := F2.out.1
        subst hv
        have AB := HB.out.below F2.out.2.2.2 (Nat.le_refl _)
        obtain ⟨b, off, hp, hx⟩ : ∃ b off, p2 = some ⟨b, off, none⟩ ∧ wc.cell? ⟨b, off, none⟩ = some (.int .u64 (z2.getD 0 0)) := by
          rcases AB.2.2.2.1 with h | ⟨b, off, hp, h⟩
          · have := AB.1
            rw [h] at this
            simp at this
            omega
          · exact ⟨b, off, hp, by have := h 0 (by have := AB.1; omega); simpa using this⟩
        subst hp
        have hlim : 0 ≤ z2.getD 0 0 ∧ z2.getD 0 0 < 18446744073709551616 := Nm.Limbs.at AB.2.2.2.2 0
        obtain ⟨x, HX⟩ : ∃ x, Hid (z2.getD 0 0 = x) := ⟨_, rfl⟩
        rw [HX.out] at hx hlim
        obtain ⟨cap, w2, ap, hcap, own2, d2⟩ := grow64 g bs.length bs x wc rfl (by omega) ob
        have AP := hid ap
        have F : Hid (Bases w2 (.slice (some ⟨wc.heap.size + 1, 0, none⟩) (bs.length + 1) cap) ∧ Boxed w w2 p1 n1 c1 (some ⟨b, off, none⟩) n2 c2) := by
          refine ⟨⟨wc.heap.size + 1, bs ++ [x], cap, by simp, by simp; omega, by simp; omega, Lb.append (limb_one hlim), ?_⟩, F2.out.2.below d2⟩
          have := own2.lies.take (bs.length + 1)
          rw [show List.take (bs.length + 1) (bs ++ [x] ++ List.replicate (cap - (bs.length + 1)) (0 : Int)) = bs ++ [x] by rw [show bs.length + 1 = (bs ++ [x]).length by simp, List.take_append_of_le_length (Nat.le_refl _), List.take_length]] at this
          exact this
        clear ap hcap own2 d2 F2 AB ob Lb lb hlim h0
        go_wp2_with (at_builtin; refine wpList_append_l rfl _ _ rfl AP.out (by rfl) (by rfl) ?_; clear AP)
        go_meet
        exact ⟨_, rfl, F⟩
      · have hn : n2 = 0 := by omega
        subst hn
        have F : Hid (Bases wc v ∧ Boxed w wc p1 n1 c1 p2 0 c2) := ⟨F2.out.1.bases, F2.out.2⟩
        clear F2 h0
        go_wp2_with fail
        go_meet
        exact ⟨_, rfl, F⟩
    case rest =>
      clear F2 c0 c1'
      obtain ⟨v', hv', F3⟩ := hcut
      have hv' := hv'.symm
      subst hv'
      obtain ⟨⟨g, bs, cap, hv, lb, lc, Lb, li⟩, BX⟩ := F3.out
      subst hv
      obtain ⟨L, HL⟩ : ∃ L, Hid (bs.length = L) := ⟨_, rfl⟩
      rw [HL.out]
      have hL8 : (L : Int) ≤ 8 := by have := HL.out; omega
      have LB := hid Lb
      have LI := hid li
      have B0 := hid BX
      clear lb lc Lb li BX F3
      go_wp2_with fail
      go_loopg [4] L (fun j i wr => ∃ t : Nat, Hid (j + t = L) ∧ t ≤ L ∧ i = .int .i64 (t : Int) ∧ Hid (Lies wr (some ⟨g, 0, none⟩) bs ∧ Boxed w wr p1 n1 c1 p2 n2 c2))
      case atStart => exact ⟨0, by show _ = _; omega, Nat.zero_le _, rfl, LI.out, B0.out⟩
      case round =>
        clear LI B0
        obtain ⟨t, GT, htL, rfl, S⟩ := hrel
        by_cases hlt : t < L
        · have hti : (t : Int) < (L : Int) := by omega
          have c0 : wr.cell? ⟨w.heap.size, 0, none⟩ = some (.slice p1 n1 c1) := S.out.2.1
          obtain ⟨x, hx, X⟩ : ∃ x, wr.cell? ⟨g, 0 + t, none⟩ = some (.int .u64 x) ∧ Hid (0 ≤ x ∧ x < 18446744073709551616) := by
            rcases S.out.1 with h | ⟨b, off, hp, h⟩
            · have := HL.out
              rw [h] at this
              simp at this
              omega
            · cases hp
              exact ⟨_, h t (by have := HL.out; omega), Nm.Limbs.at LB.out t⟩
          rw [Nat.zero_add] at hx
          have HX := hid hx
          have AR := hid (HA.out.below S.out.2.2.2 (Nat.le_refl _))
          have hd : Below wr.heap.size wr wr.drew := (Below.refl _ _).drew
          have RL := hid (rlog_says p1 n1 c1 z1 x wr.drew (AR.out.below hd (Nat.le_refl _)) X.out.2)
          have HD := hid hd
          clear hd
          go_upto_region 9 with fail
          go_cut [5, 6] from 26 to 59 (fun s q wx => ∃ n E, s = .int .i64 n ∧ q = .int .i64 E ∧ Hid (LogIs z1 x n E ∧ Below wr.heap.size wr wx))
          case first =>
            go_region_with (go_at_call 31; refine RL.out.mono ?_; rintro e w1 ⟨n, E, rfl, h, d⟩; have F := hid (And.intro h (HD.out.trans d)); clear h d)
            all_goals (go_wp2_with fail; go_meet; exact ⟨_, _, rfl, rfl, F⟩)
          case rest =>
            obtain ⟨n, E, rfl, rfl, F1⟩ := hcut
            clear RL HD c0 hx AR
            have S1 : Hid (Lies wc (some ⟨g, 0, none⟩) bs ∧ Boxed w wc p1 n1 c1 p2 n2 c2) := ⟨S.out.1.below F1.out.2 (Nat.le_refl _), S.out.2.below F1.out.2⟩
            have c0 : wc.cell? ⟨w.heap.size, 0, none⟩ = some (.slice p1 n1 c1) := S1.out.2.1
            have hx : wc.cell? ⟨g, t, none⟩ = some (.int .u64 x) := by rw [F1.out.2.cell (p := ⟨g, t, none⟩) (cell_lt HX.out)]; exact HX.out
            have AR := hid (HA.out.below S1.out.2.2.2 (Nat.le_refl _))
            have hd : Below wc.heap.size wc wc.drew := (Below.refl _ _).drew
            have RL := hid (log_says p1 n1 c1 z1 x wc.drew (AR.out.below hd (Nat.le_refl _)) X.out.2)
            have HD := hid hd
            clear hd
            go_upto_region 10 with fail
            go_cut [7, 8] from 26 to 59 (fun s q wx => ∃ n E, s = .int .i64 n ∧ q = .int .i64 E ∧ Hid (LogIs z1 x n E ∧ Below wc.heap.size wc wx))
            case first =>
              go_region_with (go_at_call 32; refine RL.out.mono ?_; rintro e w1 ⟨n', E', rfl, h, d⟩; have F := hid (And.intro h (HD.out.trans d)); clear h d)
              all_goals (go_wp2_with fail; go_meet; exact ⟨_, _, rfl, rfl, F⟩)
            case rest =>
              obtain ⟨n', E', rfl, rfl, F2⟩ := hcut
              obtain ⟨e1, e2⟩ := F1.out.1.one F2.out.1
              subst e1 e2
              have S2 : Hid (Lies wc (some ⟨g, 0, none⟩) bs ∧ Boxed w wc p1 n1 c1 p2 n2 c2) := ⟨S1.out.1.below F2.out.2 (Nat.le_refl _), S1.out.2.below F2.out.2⟩
              clear RL HD c0 hx AR HX F1 F2 S1 S
              go_wp2_with fail
              go_roundg (gk - 1)
              case measure => have := GT.out; omega
              case rel => exact ⟨t + 1, by show _ = _; have := GT.out; omega, by omega, by go_num, S2.out⟩
        · obtain rfl : t = L := by omega
          have D := hid S.out.2.2.2
          clear S
          go_wp2_with fail
          go_ret
          exact ⟨rfl, D.out⟩

set_option maxRecDepth 100000 in
set_option maxHeartbeats 4000000 in
theorem quotPowers_any (a : Option Addr) (len cap : Nat) (its : List PIt) (w : World) (hl : its.length = len) (hc : len ≤ cap) (hm : cap ≤ 17592186044416) (hp : PHolds w a its) (hi : ∀ it ∈ its, PArg w it) :
    Calls Try.prog 4 #[.slice a len cap] w fun e w' => e = .returned (.bool true) ∧ Below w.heap.size w w' := by
  have HL := hid hl
  have HP := hid hp
  have HI := hid hi
  clear hl hp hi
  go_enter Try.func4, Try.ntmps4
  go_wp2_with fail
  refine (one_any 7 _ (by omega) (by omega)).mono ?_
  rintro e w1 ⟨r1, rfl, A1, hb1⟩
  have P1 := hid (powers_true ⟨r1, 1, 1, [7], none, 0, 0, [], 3⟩ w1 ⟨A1, ⟨rfl, Nat.le_refl _, Nat.zero_le _, Lies.nil _ _, Nm.Limbs.nil⟩, by simp only; omega⟩)
  have D1 := hid hb1
  clear A1 hb1
  go_wp2_with fail
  refine P1.out.mono ?_
  rintro e w2 ⟨rfl, hb2⟩
  have D2 := hid (chain D1.out hb2 (Nat.le_refl _))
  clear hb2 P1 D1
  go_wp2_with fail
  refine (one_any 1000 _ (by omega) (by omega)).mono ?_
  rintro e w3 ⟨r3, rfl, A3, hb3⟩
  have P3 := hid (logs_true ⟨r3, 1, 1, [1000], none, 0, 0, [], 0⟩ w3 ⟨A3, ⟨rfl, Nat.le_refl _, Nat.zero_le _, Lies.nil _ _, Nm.Limbs.nil⟩, by simp only; omega⟩)
  have D3 := hid (chain D2.out hb3 (Nat.le_refl _))
  clear A3 hb3 D2
  go_wp2_with fail
  refine P3.out.mono ?_
  rintro e w4 ⟨rfl, hb4⟩
  have D4 := hid (chain D3.out hb4 (Nat.le_refl _))
  clear hb4 P3 D3
  go_wp2_with fail
  go_loopw [3] (fun i wr => ∃ j : Nat, j ≤ len ∧ i = .int .i64 j ∧ Hid (Below w.heap.size w wr)) (fun i _ => len - (intOf i).toNat)
  case atStart => exact ⟨0, Nat.zero_le _, rfl, D4.out⟩
  case round =>
    clear D4
    obtain ⟨j, hj, rfl, D⟩ := hrel
    by_cases hlt : j < len
    · obtain ⟨it, hit⟩ : ∃ it, its[j]? = some it := ⟨_, List.getElem?_eq_getElem (by have := HL.out; omega)⟩
      have hPH := HP.out.belowL D.out
      have PA := hid ((HI.out it (List.mem_of_getElem? hit)).belowL D.out)
      rcases hPH with h | ⟨b, off, rfl, h⟩
      · rw [h] at hit
        simp at hit
      · obtain ⟨k1, k2, k3⟩ := h j it hit
        have PW := hid (powers_true it wr PA.out)
        have hjl : (j : Int) < (len : Int) := by omega
        have K1 := hid k1
        have K2 := hid k2
        have K3 := hid k3
        clear h hit
        go_wp2_with fail
        refine PW.out.mono ?_
        rintro e w5 ⟨rfl, hb5⟩
        have k1' : w5.cell? ⟨b, off + j * 3, none⟩ = some (.slice it.p1 it.n1 it.c1) := by rw [hb5.cell (p := ⟨b, off + j * 3, none⟩) (cell_lt K1.out)]; exact K1.out
        have k2' : w5.cell? ⟨b, off + j * 3 + 1, none⟩ = some (.slice it.p2 it.n2 it.c2) := by rw [hb5.cell (p := ⟨b, off + j * 3 + 1, none⟩) (cell_lt K2.out)]; exact K2.out
        have k3' : w5.cell? ⟨b, off + j * 3 + 2, none⟩ = some (.int .i64 it.N) := by rw [hb5.cell (p := ⟨b, off + j * 3 + 2, none⟩) (cell_lt K3.out)]; exact K3.out
        have PL := hid (logs_true it w5 (PA.out.belowL hb5))
        have D5 := hid (chain D.out hb5 (Nat.le_refl _))
        clear hb5 k1 k2 k3 PW
        go_wp2_with fail
        refine PL.out.mono ?_
        rintro e w6 ⟨rfl, hb6⟩
        have D6 := hid (chain D5.out hb6 (Nat.le_refl _))
        clear hb6 PL k1' k2' k3'
        go_wp2_with fail
        go_roundw
        case rel => exact ⟨j + 1, by omega, by go_num, D6.out⟩
        case measure => simp [intOf]; omega
    · go_wp2_with fail
      go_ret
      exact ⟨rfl, D.out⟩
end Go.Proofs.Ythfechigdiefpaa
