/-
  Texts put together: TnD, VTrimL, VTrimR, VClone, VDec, VOwn, VDig, VSlim, VNormA, LExact, IWalk1A, IOrdD, IUp, IDown, IWalk1, LHalf, MSt.
-/
import Derived.Test.YtggikfcdecnooaaGreatDoorRE
import Derived.Test.YtggikfcdecnooaaGreatDoorRF
import Derived.Deep.LoopGhost
import Derived.Test.YtggikfcdecnooaaGreatDoorVStr
import Derived.Shelf.Pu.Clone
import Derived.Test.YtggikfcdecnooaaGreatDoorVNum2
import Derived.Laws.ResultCell
import Derived.Test.YtggikfcdecnooaaGreatDoorVOrd
import Derived.Deep.Cut
import Derived.Deep.RegionHeld3
import Derived.Test.YtggikfcdecnooaaGreatDoorFDec
import Derived.Test.YtggikfcdecnooaaGreatDoorFRow3
import Derived.Test.YtggikfcdecnooaaGreatDoorLNum4
import Derived.Test.YtggikfcdecnooaaGreatDoorIWalk1C
import Derived.Test.YtggikfcdecnooaaGreatDoorIWalk1B
import Derived.Test.YtggikfcdecnooaaGreatDoorXMem
import Derived.Test.YtggikfcdecnooaaGreatDoorRD
namespace Go.Proofs.YtggikfcdecnooaaGreatDoor
open Go Go.RowKit Go.Deep

namespace Tn
open Sh
theorem in_dig {os xs : List Int} {T E : Int} {s : ByteArray} (hz : Nm.Limbs os) (hv : Nm.val os = T) (h0 : 0 < T) (hb : T < 10 ^ 60) (hs : Str s xs) (h : InIs os 10 false xs E) : DigT T s xs ∧ E = 0 := by
  have hp : T < Nm.pw 4096 := Int.lt_trans hb (fp10_pw (by omega))
  have ts : Nm.tsize os ≤ 4096 := (Nm.tsize_le_iff hz 4096).2 (by omega)
  cases h with
  | big c => omega
  | base _ c => omega
  | zero c _ _ =>
    have := (Nm.tsize_zero_iff hz).1 c
    omega
  | ok L c1 c2 c3 c4 c5 =>
    rw [hv] at c5 hs ⊢
    exact ⟨dig_lets h0 c5 (by omega) hb hs, rfl⟩
theorem norm_is {xs : List Int} {k e : Int} {j : Nat} (hd : Digs xs) (hh : xs.getD 0 0 ≠ 48) (hv : dv xs = k) (hk : 0 < k) (hj : j ≤ xs.length) (h0 : ∀ i, j ≤ i → i < xs.length → xs.getD i 0 = 48) (hl : xs.getD (j - 1) 0 ≠ 48) (he : -1075 ≤ e) :
    dd (k * S e) = ⟨false, xs.take j, e + ((xs.length : Int) - (j : Int))⟩ := by
  obtain ⟨n1, n2, n3⟩ := Fx.nml_take hd hh hj h0 (fun _ => hl) (by omega)
  refine dd_eq ⟨rfl, by show -1075 ≤ e + _; omega, .inr n2⟩ ?_
  show dv (xs.take j) * 10 ^ (e + ((xs.length : Int) - (j : Int)) + 1075).toNat = _
  rw [show (e + ((xs.length : Int) - (j : Int)) + 1075).toNat = (xs.length - j) + (e + 1075).toNat by omega, Int.pow_add, ← Int.mul_assoc, n3, hv]
  rfl
end Tn
def NoTold (neg : Bool) (U : Int) (w : World) (en : Ending) (w' : World) : Prop := ∃ t, en = .returned (.agg #[.bool neg, .string t, .int .i64 (Sh.dd U).e]) ∧ Hid (Str t (Sh.dd U).ds) ∧ Below w.heap.size w w'

set_option maxRecDepth 100000 in
set_option maxHeartbeats 8000000 in
theorem xnormal_any (neg : Bool) (k e : Int) (r : Option Addr) (os : List Int) (w : World) (e0 : -1000 ≤ e) (e1 : e ≤ 1000) (hA : Arg w r os.length os.length os) (hv : Nm.val os = k) (hk : 0 < k) (hk1 : k < 10 ^ 60) :
    Calls Tryz.prog 42 #[.bool neg, .slice r os.length os.length, .int .i64 e] w fun en w' => NoTold neg (k * Tn.S e) w en w' := by
  have Z := hid (FR3.new w (.bool false) (.string ⟨#[]⟩) (.int .i64 0))
  have ZB := hid (alloc_b w (.cells #[.bool false, .string ⟨#[]⟩, .int .i64 0] 29))
  have SD := hid (sdigits_any r _ _ os (w.alloc (.cells #[.bool false, .string ⟨#[]⟩, .int .i64 0] 29)) (hA.below ZB.out (Nat.le_refl _)))
  have DI := hid (fun (s : ByteArray) (xs : List Int) (E : Int) (h1 : Str s xs) (h2 : InIs os 10 false xs E) => Tn.in_dig hA.2.2.2.2 hv hk hk1 h1 h2)
  have KP := hid hk
  clear hA hv hk hk1
  go_enter Tryz.func42, Tryz.ntmps42
  go_wp2_with fail
  refine SD.out.mono ?_
  rintro en w1 ⟨s, xs, E, rfl, hs, hi, hB⟩
  obtain ⟨dt, rfl⟩ := DI.out s xs E hs hi
  have DT := hid dt
  have R1 := hid (Z.out.below hB Z.out.lt)
  have B1 := hid (ZB.out.trans (hB.mono ZB.out.size))
  have HS := hid hs
  have sz := hid hs.size
  obtain ⟨L, hL⟩ : ∃ L, xs.length = L + 1 := ⟨xs.length - 1, by have := List.length_pos_iff.2 dt.ne; omega⟩
  have HL := hid hL
  have lb : (L : Int) ≤ 3000 := by have := dt.len; omega
  have s1 : Hid (s.size = L + 1) := by show _ = _; rw [sz.out, hL]
  have BA : Hid (∀ j (h : j < s.size), ((s[j]'h).toNat : Int) = xs.getD j 0) := fun j h => hs.at j h
  clear hB SD DI Z ZB hs hi dt hL
  go_wp2_with fail
  go_loopg [2, 9] L (fun m ev nv wr => nv = .int .i64 ((m : Int) + 1) ∧ m ≤ L ∧ ev = .int .i64 (e + ((L : Int) - (m : Int))) ∧ Hid ((∀ i, m + 1 ≤ i → i < xs.length → xs.getD i 0 = 48) ∧ wr = w1))
  case atStart => exact ⟨by rw [s1.out]; rfl, Nat.le_refl _, by rw [show e + ((L : Int) - (L : Int)) = e by omega], fun i h1 h2 => by have := HL.out; omega, rfl⟩
  case round =>
    obtain ⟨rfl, hm, rfl, J⟩ := hrel
    obtain ⟨j0, hw⟩ := J.out
    subst hw
    have J0 := hid j0
    clear J j0
    have E9 : Hid (xs.getD gk 0 ≠ 48 → Sh.dd (k * Tn.S e) = ⟨false, xs.take (gk + 1), e + ((L : Int) - (gk : Int))⟩) := fun h => by
      have q := Tn.norm_is (j := gk + 1) DT.out.digs DT.out.head DT.out.val KP.out (by have := HL.out; omega) J0.out (by rw [Nat.add_sub_cancel]; exact h) (e := e) (by omega)
      rw [q, HL.out]
      congr 1
      omega
    have BJ := BA.out gk
    have gl : gk < s.size := by rw [s1.out]; omega
    have gli : (gk : Int) < (s.size : Int) := by omega
    have gl2 : (gk : Int) + 1 ≤ (s.size : Int) := by omega
    have FIN : Hid (∀ (w' : World), xs.getD gk 0 ≠ 48 → Below w.heap.size w w' → NoTold neg (k * Tn.S e) w (.returned (.agg #[.bool neg, .string (s.extract 0 (gk + 1)), .int .i64 (e + ((L : Int) - (gk : Int)))])) w') := fun w' h hb => by
      have q := E9.out h
      refine ⟨s.extract 0 (gk + 1), by rw [q], ?_, hb⟩
      rw [q]
      have x := Str.extract HS.out 0 (gk + 1)
      rw [List.drop_zero, Nat.sub_zero] at x
      exact x
    obtain ⟨⟨c0, c1, c2⟩, f0, f1, f2⟩ := R1.out.cells
    by_cases h48 : xs.getD gk 0 = 48
    · have g0 : gk ≠ 0 := fun c => DT.out.head (by rw [c] at h48; exact h48)
      have g0i : (1 : Int) < (gk : Int) + 1 := by omega
      rw [h48] at BJ
      have J1 : Hid (∀ i, gk - 1 + 1 ≤ i → i < xs.length → xs.getD i 0 = 48) := fun i h1 h2 => by
        rcases Nat.eq_or_lt_of_le (show gk ≤ i by omega) with c | c
        · rw [← c]; exact h48
        · exact J0.out i (by omega) h2
      clear E9 FIN h48 J0
      go_wp2_with fail
      go_roundg (gk - 1)
      case measure => omega
      case rel => exact ⟨by go_num, by omega, by go_num, J1.out, rfl⟩
    · have G := hid (fun w' hb => FIN.out w' h48 hb)
      have h48b : (xs.getD gk 0 == 48) = false := beq_eq_false_iff_ne.2 h48
      clear E9 FIN J0
      generalize xs.getD gk 0 = c at *
      by_cases g0 : (1 : Int) < (gk : Int) + 1
      · go_wp2_with fail
        (try simp only [Exit.inBlock, Exit.then])
        refine bodyPost_ret (results_cell_row rfl _ _ w.heap.size 29 _ (0, 0) _ rfl (R1.out.put _ _ _) Tryz.underlying29 rfl (by kernel_rfl)) rfl ?_
        exact G.out _ (fset3_below B1.out (Nat.le_refl _))
      · go_wp2_with fail
        (try simp only [Exit.inBlock, Exit.then])
        refine bodyPost_ret (results_cell_row rfl _ _ w.heap.size 29 _ (0, 0) _ rfl (R1.out.put _ _ _) Tryz.underlying29 rfl (by kernel_rfl)) rfl ?_
        exact G.out _ (fset3_below B1.out (Nat.le_refl _))
end Go.Proofs.YtggikfcdecnooaaGreatDoor

namespace Go.Proofs.YtggikfcdecnooaaGreatDoor
open Go.RowKit Go.Deep

/-- s' is s without some zeros at its head, and opens with none. -/
def Bared (xs : List Int) (s' : ByteArray) (j : Nat) : Prop := Str s' (xs.drop j) ∧ j ≤ xs.length ∧ (∀ i, i < j → xs.getD i 0 = 48)

def STold (xs : List Int) (e : Ending) : Prop := ∃ s' j, e = .returned (.string s') ∧ Bared xs s' j ∧ (j < xs.length → xs.getD j 0 ≠ 48)

set_option maxRecDepth 100000 in
set_option maxHeartbeats 1000000 in
theorem strim1_any (s : ByteArray) (xs : List Int) (w : World) (hs : Str s xs) (hn1 : xs.length ≤ 562949953421312) :
    Calls Tryz.prog 159 #[.string s, .int .u8 48] w fun e w' => STold xs e ∧ w' = w := by
  have HS := hid hs
  have HN := hid hn1
  clear hs hn1
  go_enter Tryz.func159, Tryz.ntmps159
  go_wp2_with fail
  go_loop [0] (fun c => ∃ s' j, c = .string s' ∧ Hid (Bared xs s' j)) (fun c => match c with | .string s' => s'.size | _ => 0)
  case atStart => exact ⟨s, 0, rfl, HS.out, Nat.zero_le _, fun i hi => by omega⟩
  case round =>
    obtain ⟨s', j, rfl, I⟩ := hrel
    obtain ⟨m, HM⟩ : ∃ m, Hid (s'.size = m) := ⟨_, rfl⟩
    have hsz : s'.size = m := HM.out
    have hjm : Hid (j + m = xs.length) := by show _ = _; have := I.out.1.size; have := I.out.2.1; have := HM.out; simp at *; omega
    have hmb : (m : Int) ≤ 562949953421312 := by have := HN.out; have := hjm.out; omega
    by_cases h0 : m = 0
    · subst h0
      have F : Hid (STold xs (.returned (.string s'))) := ⟨s', j, rfl, I.out, fun h => by have := hjm.out; omega⟩
      clear I
      go_wp2_with fail
      go_ret
      exact ⟨F.out, rfl⟩
    · have hm : 0 < m := by omega
      have hmi : (0 : Int) < (m : Int) := by omega
      obtain ⟨x, X⟩ : ∃ x, Hid (xs.getD j 0 = x) := ⟨_, rfl⟩
      have hx : ∀ h : 0 < s'.size, ((s'[0]'h).toNat : Int) = x := fun h => by rw [I.out.1.at 0 h, ← X.out]; simp [List.getD]
      by_cases hd : x = 48
      · subst hd
        have F : Hid (Bared xs (s'.extract 1 s'.size) (j + 1)) := by
          refine ⟨?_, by have := hjm.out; omega, fun i hi => ?_⟩
          · have := I.out.1.extract 1 s'.size
            rw [List.drop_drop, List.take_of_length_le (by have := hjm.out; have := HM.out; simp; omega)] at this
            exact this
          · by_cases e : i = j
            · subst e; exact X.out
            · exact I.out.2.2 i (by omega)
        rw [hsz] at F
        have SZ : Hid ((s'.extract 1 m).size < s'.size) := by
          show _ < _
          have e1 := F.out.1.size
          have e2 := HM.out
          have e3 := hjm.out
          simp only [List.length_drop] at e1
          omega
        clear I
        go_wp2_with fail
        go_round
        case rel => exact ⟨_, _, rfl, F.out⟩
        case measure => exact SZ.out
      · have hd2 : (x == 48) = false := by rw [beq_eq_false_iff_ne]; exact hd
        have F : Hid (STold xs (.returned (.string s'))) := ⟨s', j, rfl, I.out, fun _ => by rw [X.out]; exact hd⟩
        clear I
        go_wp2_with fail
        go_ret
        exact ⟨F.out, rfl⟩

set_option maxRecDepth 100000 in
theorem strim_any (s : ByteArray) (xs : List Int) (w : World) (hs : Str s xs) (hn1 : xs.length ≤ 562949953421312) :
    Calls Tryz.prog 144 #[.string s, .string ⟨#[48]⟩] w fun e w' => STold xs e ∧ w' = w := by
  have T := hid (strim1_any s xs w hs hn1)
  by_cases h : xs = []
  · have F : Hid (STold xs (.returned (.string s))) := ⟨s, 0, rfl, ⟨by simpa using hs, Nat.zero_le _, fun i hi => by omega⟩, fun hlt => by rw [h] at hlt; simp at hlt⟩
    have hs0 : s = ⟨#[]⟩ := hs.inj (by rw [h]; rfl)
    subst hs0
    clear hs hn1 h
    go_enter Tryz.func144, Tryz.ntmps144
    go_wp2_with fail
    go_ret
    exact ⟨F.out, rfl⟩
  · have e0 := hs.eq (t := ⟨#[]⟩) (ys := []) rfl
    rw [decide_eq_false h] at e0
    have e1 : s.toList ≠ [] := by
      intro c
      apply h
      rw [ByteArray.toList_eq] at c
      rw [← hs, c]
      rfl
    have e2 : (s.toList == []) = false := by rw [beq_eq_false_iff_ne]; exact e1
    have e3 : s.toList.isEmpty = false := by rw [List.isEmpty_eq_false_iff]; exact e1
    clear hs hn1 h
    go_enter Tryz.func144, Tryz.ntmps144
    go_wp2_with fail
    refine T.out.mono ?_
    rintro e w' ⟨h1, rfl⟩
    obtain ⟨s', j, rfl, h2⟩ := h1
    have F : Hid (STold xs (.returned (.string s'))) := ⟨s', j, rfl, h2⟩
    clear h2 T
    go_wp2_with fail
    go_ret
    exact ⟨F.out, rfl⟩
end Go.Proofs.YtggikfcdecnooaaGreatDoor

namespace Go.Proofs.YtggikfcdecnooaaGreatDoor
open Go.RowKit Go.Deep

/-- s' is s without some zeros at its end, and ends with none. -/
def VTail (xs : List Int) (e : Ending) : Prop := ∃ s' k, e = .returned (.string s') ∧ Str s' (xs.take k) ∧ k ≤ xs.length ∧ (∀ i, k ≤ i → i < xs.length → xs.getD i 0 = 48) ∧ (0 < k → xs.getD (k - 1) 0 ≠ 48)

set_option maxRecDepth 100000 in
set_option maxHeartbeats 1000000 in
theorem vrtrim_any (s : ByteArray) (xs : List Int) (w : World) (hs : Str s xs) (hn1 : xs.length ≤ 562949953421312) :
    Calls Tryz.prog 163 #[.string s, .int .u8 48] w fun e w' => VTail xs e ∧ w' = w := by
  have HS := hid hs
  have HN := hid hn1
  clear hs hn1
  go_enter Tryz.func163, Tryz.ntmps163
  go_wp2_with fail
  go_loop [0] (fun c => ∃ s' m, c = .string s' ∧ Hid (Str s' (xs.take m) ∧ m ≤ xs.length ∧ s'.size = m ∧ (∀ i, m ≤ i → i < xs.length → xs.getD i 0 = 48))) (fun c => match c with | .string s' => s'.size | _ => 0)
  case atStart => exact ⟨s, xs.length, rfl, by rw [List.take_length]; exact HS.out, Nat.le_refl _, HS.out.size, fun i h1 h2 => by omega⟩
  case round =>
    obtain ⟨s', m, rfl, I⟩ := hrel
    have hsz : s'.size = m := I.out.2.2.1
    have hmb : (m : Int) ≤ 562949953421312 := by have := HN.out; have := I.out.2.1; omega
    by_cases h0 : m = 0
    · subst h0
      have F : Hid (VTail xs (.returned (.string s'))) := ⟨s', 0, rfl, I.out.1, Nat.zero_le _, I.out.2.2.2, fun h => by omega⟩
      clear I
      go_wp2_with fail
      go_ret
      exact ⟨F.out, rfl⟩
    · obtain ⟨u, hu⟩ : ∃ u, m = u + 1 := ⟨m - 1, by omega⟩
      have hmi : (0 : Int) < (m : Int) := by omega
      have hmu : (m : Int) - 1 = (u : Int) := by omega
      have hum : (u : Int) < (m : Int) := by omega
      obtain ⟨x, X⟩ : ∃ x, Hid (xs.getD u 0 = x) := ⟨_, rfl⟩
      have hx : ∀ h : u < s'.size, ((s'[u]'h).toNat : Int) = x := fun h => by
        rw [I.out.1.at u h, ← X.out]
        simp [List.getD, show u < m by omega]
      have HU := hid hu
      by_cases hd : x = 48
      · subst hd
        have F : Hid (Str (s'.extract 0 u) (xs.take u) ∧ u ≤ xs.length ∧ (s'.extract 0 u).size = u ∧ (∀ i, u ≤ i → i < xs.length → xs.getD i 0 = 48)) := by
          have e := I.out.1.extract 0 u
          rw [List.drop_zero, Nat.sub_zero, List.take_take, show min u m = u by omega] at e
          refine ⟨e, by have := I.out.2.1; omega, by rw [e.size]; have := I.out.2.1; simp; omega, fun i h1 h2 => ?_⟩
          by_cases c : i = u
          · subst c; exact X.out
          · exact I.out.2.2.2 i (by omega) h2
        have SZ : Hid ((s'.extract 0 u).size < s'.size) := by show _ < _; rw [F.out.2.2.1, hsz]; omega
        clear I hu h0
        go_wp2_with fail
        go_round
        case rel => exact ⟨_, _, rfl, F.out⟩
        case measure => exact SZ.out
      · have hd2 : (x == 48) = false := by rw [beq_eq_false_iff_ne]; exact hd
        have F : Hid (VTail xs (.returned (.string s'))) := ⟨s', m, rfl, I.out.1, I.out.2.1, I.out.2.2.2, fun _ => by rw [show m - 1 = u by omega, X.out]; exact hd⟩
        clear I hu h0
        go_wp2_with fail
        go_ret
        exact ⟨F.out, rfl⟩


set_option maxRecDepth 100000 in
theorem vrtrim0_any (s : ByteArray) (xs : List Int) (w : World) (hs : Str s xs) (hn1 : xs.length ≤ 562949953421312) :
    Calls Tryz.prog 145 #[.string s, .string ⟨#[48]⟩] w fun e w' => VTail xs e ∧ w' = w := by
  have T := hid (vrtrim_any s xs w hs hn1)
  by_cases h : xs = []
  · have F : Hid (VTail xs (.returned (.string s))) := ⟨s, 0, rfl, by rw [h] at hs ⊢; exact hs, Nat.zero_le _, fun i _ hi => by rw [h] at hi; simp at hi, fun hlt => by omega⟩
    have hs0 : s = ⟨#[]⟩ := hs.inj (by rw [h]; rfl)
    subst hs0
    clear hs hn1 h
    go_enter Tryz.func145, Tryz.ntmps145
    go_wp2_with fail
    go_ret
    exact ⟨F.out, rfl⟩
  · have e1 : s.toList ≠ [] := by
      intro c
      apply h
      rw [ByteArray.toList_eq] at c
      rw [← hs, c]
      rfl
    have e2 : (s.toList == []) = false := by rw [beq_eq_false_iff_ne]; exact e1
    have e3 : s.toList.isEmpty = false := by rw [List.isEmpty_eq_false_iff]; exact e1
    clear hs hn1 h
    go_enter Tryz.func145, Tryz.ntmps145
    go_wp2_with fail
    refine T.out.mono ?_
    rintro e w' ⟨h1, rfl⟩
    obtain ⟨s', j, rfl, h2⟩ := h1
    have F : Hid (VTail xs (.returned (.string s'))) := ⟨s', j, rfl, h2⟩
    clear h2 T
    go_wp2_with fail
    go_ret
    exact ⟨F.out, rfl⟩
end Go.Proofs.YtggikfcdecnooaaGreatDoor

namespace Go.Proofs.YtggikfcdecnooaaGreatDoor
open Go.RowKit Go.Deep Go.Shelf

def vcloneRen : Go.Shelf.Ren := ⟨fun _ => 117, fun t => if t = 37 then 81 else if t = 47 then 124 else if t = 5 then 5 else if t = 9 then 9 else if t = 3 then 3 else t, fun g => g⟩
theorem vcloneLays : LaysPu.n25 Tryz.prog vcloneRen where
  mixed := by kernel_rfl
  f25 := by kernel_rfl
  t0 := by kernel_rfl
  a0 := fun _ => by kernel_rfl
  z0 := fun _ => by kernel_rfl
  v0 := fun _ => by kernel_rfl
  i0 := by kernel_rfl
  t3 := by kernel_rfl
  a3 := fun _ => by kernel_rfl
  z3 := fun _ => by kernel_rfl
  v3 := fun _ => by kernel_rfl
  i3 := by kernel_rfl
  t4 := by kernel_rfl
  a4 := fun _ => by kernel_rfl
  z4 := fun _ => by kernel_rfl
  v4 := fun _ => by kernel_rfl
  i4 := by kernel_rfl
  t5 := by kernel_rfl
  a5 := fun _ => by kernel_rfl
  z5 := fun _ => by kernel_rfl
  v5 := fun _ => by kernel_rfl
  i5 := by kernel_rfl
  t9 := by kernel_rfl
  a9 := fun _ => by kernel_rfl
  z9 := fun _ => by kernel_rfl
  v9 := fun _ => by kernel_rfl
  i9 := by kernel_rfl
  t37 := by kernel_rfl
  a37 := fun _ => by kernel_rfl
  z37 := fun _ => by kernel_rfl
  v37 := fun _ => by kernel_rfl
  i37 := by kernel_rfl
  t47 := by kernel_rfl
  a47 := fun _ => by kernel_rfl
  z47 := fun _ => by kernel_rfl
  v47 := fun _ => by kernel_rfl
  i47 := by kernel_rfl

theorem vclone_any (s : ByteArray) (w : World) (hs : s.size ≤ 281474976710656) : Calls Tryz.prog 121 #[.string s] w fun e w' => e = .returned (.string s) ∧ Below w.heap.size w w' := by
  have C : Hid (Calls Tryz.prog 117 #[.string s] w fun e w' => e = .returned (.string s) ∧ Below w.heap.size w w') := AnyPu.stringslite_Clone vcloneLays s w (by omega)
  go_enter Tryz.func121, Tryz.ntmps121
  go_wp2_with fail
  refine C.out.mono ?_
  rintro e w1 ⟨rfl, d1⟩
  have D := hid d1
  clear d1
  go_wp2_with fail
  go_ret
  exact ⟨rfl, D.out⟩
end Go.Proofs.YtggikfcdecnooaaGreatDoor

namespace Go.Proofs.YtggikfcdecnooaaGreatDoor
open Go Go.RowKit Go.Deep

def decV (neg : Bool) (s : ByteArray) (e : Int) : Value := .agg #[.bool neg, .string s, .int .i64 e]
/-- A value is this Dec. -/
def DecIs (v : Value) (d : Sc.D) : Prop := ∃ s, v = decV d.neg s d.e ∧ Str s d.ds

/-- Three cells that may be written. -/
def Row3 (w : World) (b : Nat) (v0 v1 v2 : Value) : Prop := w.heap[b]? = some (.cells #[v0, v1, v2] 29 (0, 0))
theorem Row3.new (w : World) (v0 v1 v2 : Value) : Row3 (w.alloc (.cells #[v0, v1, v2] 29)) w.heap.size v0 v1 v2 := heap_alloc_new w _
theorem Row3.below {B : Nat} {w w' : World} {b : Nat} {v0 v1 v2 : Value} (h : Row3 w b v0 v1 v2) (hB : Below B w w') (hb : b < B) : Row3 w' b v0 v1 v2 := by
  rw [Row3, hB.block b hb]; exact h
theorem Row3.lt {w : World} {b : Nat} {v0 v1 v2 : Value} (h : Row3 w b v0 v1 v2) : b < w.heap.size := by
  rcases Nat.lt_or_ge b w.heap.size with hl | hl
  · exact hl
  · simp [Row3, Array.getElem?_eq_none hl] at h
theorem Row3.cells {w : World} {b : Nat} {v0 v1 v2 : Value} (h : Row3 w b v0 v1 v2) :
    (w.cell? ⟨b, 0, none⟩ = some v0 ∧ w.cell? ⟨b, 1, none⟩ = some v1 ∧ w.cell? ⟨b, 2, none⟩ = some v2) ∧
    (w.frozen? ⟨b, 0, none⟩ = false ∧ w.frozen? ⟨b, 1, none⟩ = false ∧ w.frozen? ⟨b, 2, none⟩ = false) := by
  simp only [Row3] at h
  refine ⟨⟨?_, ?_, ?_⟩, ⟨?_, ?_, ?_⟩⟩ <;> simp [World.cell?, World.frozen?, h]
theorem Row3.put {w : World} {b : Nat} {v0 v1 v2 : Value} (h : Row3 w b v0 v1 v2) (u0 u1 u2 : Value) :
    Row3 (((w.setCell ⟨b, 0, none⟩ u0).setCell ⟨b, 1, none⟩ u1).setCell ⟨b, 2, none⟩ u2) b u0 u1 u2 := by
  have h0 := set1 (o := 0) (v := u0) (c' := #[u0, v1, v2]) h (by simp [Array.setIfInBounds])
  have h1 := set1 (o := 1) (v := u1) (c' := #[u0, u1, v2]) h0 (by simp [Array.setIfInBounds])
  exact set1 (o := 2) (v := u2) (c' := #[u0, u1, u2]) h1 (by simp [Array.setIfInBounds])
theorem Row3.far {w : World} {b c o : Nat} {v v0 v1 v2 : Value} (h : Row3 w b v0 v1 v2) (hc : c ≠ b) : Row3 (w.setCell ⟨c, o, none⟩ v) b v0 v1 v2 := by
  simp only [Row3] at *
  simp only [World.setCell, Array.getElem?_modify]
  rw [if_neg hc]; exact h
theorem set3_below {B : Nat} {w w' : World} {b : Nat} {u0 u1 u2 : Value} (h : Below B w w') (hb : B ≤ b) : Below B w (((w'.setCell ⟨b, 0, none⟩ u0).setCell ⟨b, 1, none⟩ u1).setCell ⟨b, 2, none⟩ u2) :=
  ((h.setCell (p := ⟨b, 0, none⟩) hb u0).setCell (p := ⟨b, 1, none⟩) hb u1).setCell (p := ⟨b, 2, none⟩) hb u2

/-- Two boxes for Decs, new. -/
def Two3 (w w' : World) (v0 v1 v2 u0 u1 u2 : Value) : Prop := Below w.heap.size w w' ∧ Row3 w' w.heap.size v0 v1 v2 ∧ Row3 w' (w.heap.size + 1) u0 u1 u2
theorem Two3.new (w : World) (v0 v1 v2 u0 u1 u2 : Value) : Two3 w ((w.alloc (.cells #[v0, v1, v2] 29)).alloc (.cells #[u0, u1, u2] 29)) v0 v1 v2 u0 u1 u2 :=
  ⟨below_on (alloc_b _ _) (alloc_b _ _), heap_alloc2_old _ _ _, heap_alloc2_new _ _ _⟩
theorem Two3.on {w w' w'' : World} {v0 v1 v2 u0 u1 u2 : Value} (h : Two3 w w' v0 v1 v2 u0 u1 u2) (k : Below w'.heap.size w' w'') : Two3 w w'' v0 v1 v2 u0 u1 u2 :=
  ⟨below_on h.1 k, h.2.1.below k h.2.1.lt, h.2.2.below k h.2.2.lt⟩
theorem Two3.putB {w w' : World} {v0 v1 v2 u0 u1 u2 : Value} (h : Two3 w w' v0 v1 v2 u0 u1 u2) (x0 x1 x2 : Value) : Two3 w (((w'.setCell ⟨w.heap.size + 1, 0, none⟩ x0).setCell ⟨w.heap.size + 1, 1, none⟩ x1).setCell ⟨w.heap.size + 1, 2, none⟩ x2) v0 v1 v2 x0 x1 x2 :=
  ⟨set3_below h.1 (Nat.le_succ _), ((h.2.1.far (by omega)).far (by omega)).far (by omega), h.2.2.put _ _ _⟩
theorem Two3.putA {w w' : World} {v0 v1 v2 u0 u1 u2 : Value} (h : Two3 w w' v0 v1 v2 u0 u1 u2) (x0 x1 x2 : Value) : Two3 w (((w'.setCell ⟨w.heap.size, 0, none⟩ x0).setCell ⟨w.heap.size, 1, none⟩ x1).setCell ⟨w.heap.size, 2, none⟩ x2) x0 x1 x2 u0 u1 u2 :=
  ⟨set3_below h.1 (Nat.le_refl _), h.2.1.put _ _ _, ((h.2.2.far (by omega)).far (by omega)).far (by omega)⟩

theorem str_zero : Str ⟨#[48]⟩ [48] := rfl

theorem dec_ret {v : Value} {d : Sc.D} {w w' : World} (h : DecIs v d) (b : Below w.heap.size w w') : ∃ v', Ending.returned v = .returned v' ∧ DecIs v' d ∧ Below w.heap.size w w' := ⟨v, rfl, h, b⟩

set_option maxRecDepth 100000 in
set_option maxHeartbeats 1000000 in
theorem dtrim_any (neg : Bool) (s : ByteArray) (xs : List Int) (e : Int) (w : World) (hs : Str s xs) (hn : xs.length ≤ 281474976710656) (e0 : -4611686018427387904 ≤ e) (e1 : e ≤ 4611686018427387904) :
    Calls Tryz.prog 120 #[decV neg s e] w fun r w' => ∃ v, r = .returned v ∧ DecIs v (Sc.nrm neg xs e) ∧ Below w.heap.size w w' := by
  have L := hid (fun wx => strim_any s xs wx hs (by omega))
  have HN := hid hn
  clear hs hn
  unfold decV
  go_enter Tryz.func120, Tryz.ntmps120
  go_wp2_with fail
  refine (L.out _).mono ?_
  rintro r w1 ⟨⟨s1, j, rfl, ⟨b1, b2, b3⟩, b4⟩, rfl⟩
  by_cases h : j = xs.length
  · have hs1 : s1 = ⟨#[]⟩ := b1.inj (by rw [List.drop_of_length_le (by omega)]; rfl)
    have F : Hid (Sc.nrm neg xs e = ⟨neg, [48], 0⟩) := Sc.nrm_of_none (fun i hi => b3 i (by omega))
    subst hs1
    clear b1 b2 b3 b4
    go_wp2_with fail
    (try simp only [Exit.inBlock, Exit.then])
    refine bodyPost_ret (results_cell_row rfl _ _ (w.heap.size + 1) 29 _ (0, 0) _ rfl (Two3.new w _ _ _ _ _ _).2.2 Tryz.underlying29 rfl (by kernel_rfl)) rfl ?_
    exact dec_ret (by rw [F.out]; exact ⟨_, rfl, str_zero⟩) (Two3.new w _ _ _ _ _ _).1
  · have hlt : j < xs.length := by omega
    have hne := b4 hlt
    have R := hid (fun wx => vrtrim0_any s1 (xs.drop j) wx b1 (by have := HN.out; simp; omega))
    have hsz : s1.size = xs.length - j := by have := b1.size; simpa using this
    have q1 : s1.toList ≠ [] := by
      intro c
      have : s1.size = 0 := by
        rw [ByteArray.toList_eq] at c
        have := congrArg List.length c
        rw [Array.length_toList] at this
        exact this
      omega
    have q2 : (s1.toList == []) = false := by rw [beq_eq_false_iff_ne]; exact q1
    have q3 : s1.toList.isEmpty = false := by rw [List.isEmpty_eq_false_iff]; exact q1
    have N2 : Hid (∀ k, k ≤ (xs.drop j).length → (∀ i, k ≤ i → i < (xs.drop j).length → (xs.drop j).getD i 0 = 48) → (0 < k → (xs.drop j).getD (k - 1) 0 ≠ 48) → Sc.nrm neg xs e = ⟨neg, (xs.drop j).take k, e + (xs.drop j).length - k⟩ ∧ 0 < k) := fun k x1 x2 x3 => Sc.nrm_of_trims hlt b3 hne x1 x2 x3
    have HL : Hid ((xs.drop j).length = xs.length - j) := by show _ = _; simp
    obtain ⟨m, hm⟩ : ∃ m, xs.length - j = m := ⟨_, rfl⟩
    rw [hm] at hsz HL
    have hmb : (m : Int) ≤ 281474976710656 := by have := HN.out; omega
    clear b1 b2 b3 b4 hlt hne hm h
    go_wp2_with fail
    refine (R.out _).mono ?_
    rintro r w2 ⟨⟨s2, k, rfl, c1, c2, c3, c4⟩, rfl⟩
    have NN := hid (N2.out k c2 c3 c4)
    have hk2 : s2.size = k := by have := c1.size; rw [List.length_take] at this; omega
    have hkm : (k : Int) ≤ (m : Int) := by have := HL.out; omega
    have HC := hid c1
    clear c1 c2 c3 c4 R N2 L
    go_wp2_with fail
    (try simp only [Exit.inBlock, Exit.then])
    refine bodyPost_ret (results_cell_row rfl _ _ (w.heap.size + 1) 29 _ (0, 0) _ rfl (Two3.new w _ _ _ _ _ _).2.2 Tryz.underlying29 rfl (by kernel_rfl)) rfl ?_
    exact dec_ret (by rw [NN.out.1, HL.out]; exact ⟨_, rfl, HC.out⟩) (Two3.new w _ _ _ _ _ _).1
end Go.Proofs.YtggikfcdecnooaaGreatDoor

namespace Go.Proofs.YtggikfcdecnooaaGreatDoor
open Go Go.RowKit Go.Deep

theorem Two3.one {w w' : World} {v0 v1 v2 u0 u1 u2 : Value} (h : Two3 w w' v0 v1 v2 u0 u1 u2) (x : Value) : Two3 w (w'.setCell ⟨w.heap.size, 1, none⟩ x) v0 x v2 u0 u1 u2 :=
  ⟨h.1.setCell (p := ⟨w.heap.size, 1, none⟩) (Nat.le_refl _) x, set1 h.2.1 (by simp [Array.setIfInBounds]), h.2.2.far (by omega)⟩

set_option maxRecDepth 100000 in
theorem own_any (neg : Bool) (s : ByteArray) (e : Int) (w : World) (hs : s.size ≤ 281474976710656) :
    Calls Tryz.prog 89 #[decV neg s e] w fun r w' => r = .returned (decV neg s e) ∧ Below w.heap.size w w' := by
  have C := hid (fun wx => vclone_any s wx hs)
  have Z := hid (Two3.new w (.bool neg) (.string s) (.int .i64 e) (.bool false) (.string ⟨#[]⟩) (.int .i64 0))
  unfold decV
  clear hs
  go_enter Tryz.func89, Tryz.ntmps89
  go_wp2_with fail
  refine (C.out _).mono ?_
  rintro r w1 ⟨rfl, hB⟩
  have S := hid (Z.out.on hB)
  obtain ⟨⟨c0, c1, c2⟩, f0, f1, f2⟩ := S.out.2.1.cells
  obtain ⟨⟨d0, d1, d2⟩, g0, g1, g2⟩ := S.out.2.2.cells
  clear hB Z C
  go_wp2_with fail
  (try simp only [Exit.inBlock, Exit.then])
  refine bodyPost_ret (results_cell_row rfl _ _ (w.heap.size + 1) 29 _ (0, 0) _ rfl ((S.out.one _).putB _ _ _).2.2 Tryz.underlying29 rfl (by kernel_rfl)) rfl ?_
  exact ⟨rfl, ((S.out.one _).putB _ _ _).1⟩

theorem nrm_ds_len (neg : Bool) (ds : List Int) (e : Int) (h : ds.length ≤ 281474976710655) : (Sc.nrm neg ds e).ds.length ≤ 281474976710656 := by
  have := Sc.nrm_len neg ds e
  omega
end Go.Proofs.YtggikfcdecnooaaGreatDoor

namespace Go.Proofs.YtggikfcdecnooaaGreatDoor
open Go Go.RowKit Go.Deep

theorem vret_bool {a b : Bool} (h : a = b) : Ending.returned (.bool a) = .returned (.bool b) := by rw [h]

theorem digit_any (x : Int) (w : World) (h0 : 0 ≤ x) (h1 : x < 256) : Calls Tryz.prog 119 #[.int .u8 x] w fun e w' => e = .returned (.bool (Sc.dg x)) ∧ w' = w := by
  go_enter Tryz.func119, Tryz.ntmps119
  go_wp2
  all_goals (go_ret; refine ⟨vret_bool ?_, rfl⟩)
  all_goals (rw [Bool.eq_iff_iff]; simp [Sc.dg]; omega)

theorem Str.pk {s : ByteArray} {xs : List Int} (h : Str s xs) (t : Nat) : ∀ ht : t < s.size, ((s[t]'ht).toNat : Int) = Sc.pk xs t := fun ht => h.at t ht
end Go.Proofs.YtggikfcdecnooaaGreatDoor

namespace Go.Proofs.YtggikfcdecnooaaGreatDoor
open Go Go.RowKit Go.Deep

/-- What slim, and Norm, tell of a Dec. -/
def nmd (neg : Bool) (ds : List Int) (e : Int) : Sc.D := if Sc.IsDec ds e then Sc.nrm neg ds e else ⟨false, [], 0⟩
theorem isdec_n {ds : List Int} {e : Int} {neg : Bool} (h1 : ds ≠ []) (h2 : -1152921504606846976 ≤ e) (h3 : e ≤ 1152921504606846976) (h4 : ∀ i, i < ds.length → Sc.dg (Sc.pk ds i) = true) : Sc.IsDec ds e ↔ (Sc.nrm neg ds e).e ≤ 1152921504606846976 := by
  have h4' : ∀ x ∈ ds, Sc.dg x = true := by
    intro x hx
    obtain ⟨i, hi, rfl⟩ := List.mem_iff_getElem.1 hx
    have := h4 i hi
    simpa [Sc.pk, List.getD, hi] using this
  by_cases c : Sc.lz ds = ds.length
  · rw [Sc.nrm_zero c]
    constructor
    · intro _; show (0 : Int) ≤ _; omega
    · intro _; exact ⟨h1, h2, h3, h4', fun h => absurd c h⟩
  · rw [Sc.nrm_pos c]
    constructor
    · intro h; exact h.2.2.2.2 c
    · intro h; exact ⟨h1, h2, h3, h4', fun _ => h⟩

theorem Str.ne {s : ByteArray} {xs : List Int} (h : Str s xs) (hx : xs ≠ []) : s.toList ≠ [] ∧ (s.toList == []) = false ∧ s.toList.isEmpty = false := by
  have e1 : s.toList ≠ [] := by
    intro c
    apply hx
    rw [ByteArray.toList_eq] at c
    rw [← h, c]
    rfl
  exact ⟨e1, by rw [beq_eq_false_iff_ne]; exact e1, by rw [List.isEmpty_eq_false_iff]; exact e1⟩

/-- What slim tells. -/
def SlimTold (neg : Bool) (ds : List Int) (e : Int) (w : World) (r : Ending) (w' : World) : Prop := ∃ v, r = .returned (.tuple #[v, .bool (decide (Sc.IsDec ds e))]) ∧ DecIs v (nmd neg ds e) ∧ Below w.heap.size w w'

theorem Two3.drew {w w' : World} {v0 v1 v2 u0 u1 u2 : Value} (h : Two3 w w' v0 v1 v2 u0 u1 u2) (n : Nat) : Two3 w (w'.drewN n) v0 v1 v2 u0 u1 u2 := ⟨below_drewN h.1 n, h.2.1, h.2.2⟩

set_option maxRecDepth 100000 in
set_option maxHeartbeats 2000000 in
theorem slim_any (neg : Bool) (s : ByteArray) (xs : List Int) (e : Int) (w : World) (hs : Str s xs) (hn : xs.length ≤ 281474976710656) :
    Calls Tryz.prog 88 #[decV neg s e] w fun r w' => SlimTold neg xs e w r w' := by
  have ZF : Hid (¬ Sc.IsDec xs e → ∀ w', Below w.heap.size w w' → SlimTold neg xs e w (.returned (.tuple #[.agg #[.bool false, .string ⟨#[]⟩, .int .i64 0], .bool false])) w') := fun z w' b => ⟨_, by rw [decide_eq_false z], by unfold nmd; rw [if_neg z]; exact ⟨_, rfl, str_nil0⟩, b⟩
  have hsz := hs.size
  by_cases h1 : xs = []
  · have Z2 := hid (ZF.out fun c => c.1 h1)
    have hs0 : s = ⟨#[]⟩ := hs.inj (by rw [h1]; rfl)
    subst hs0
    clear hs h1 ZF hn
    unfold decV
    go_enter Tryz.func88, Tryz.ntmps88
    go_wp2_with fail
    (try simp only [Exit.inBlock, Exit.then])
    refine bodyPost_ret (results_row_tmp rfl _ _ (w.heap.size + 1) 29 _ (0, 0) _ rfl (Two3.new w _ _ _ _ _ _).2.2 Tryz.underlying29 rfl (by kernel_rfl)) rfl ?_
    exact Z2.out _ (Two3.new w _ _ _ _ _ _).1
  · obtain ⟨q1, q2, q3⟩ := hs.ne h1
    by_cases h2 : -1152921504606846976 ≤ e ∧ e ≤ 1152921504606846976
    · obtain ⟨e0, e1⟩ := h2
      have T := hid (fun wx => dtrim_any neg s xs e wx hs hn (by omega) (by omega))
      have ID : Hid ((∀ i, i < xs.length → Sc.dg (Sc.pk xs i) = true) → (Sc.IsDec xs e ↔ (Sc.nrm neg xs e).e ≤ 1152921504606846976)) := isdec_n h1 e0 e1
      have IN : Hid (∀ j, j < xs.length → Sc.dg (Sc.pk xs j) = false → ¬ Sc.IsDec xs e) := fun j hj hd c => by
        have := c.2.2.2.1 (Sc.pk xs j) (by simp [Sc.pk, List.getD, hj])
        rw [hd] at this; exact absurd this (by simp)
      have DG := hid (fun (j : Nat) (wx : World) => digit_any (Sc.pk xs j) wx (hs.atb j).1 (hs.atb j).2)
      have HS := hid hs
      have HN := hid hn
      have NE := hid (Sc.nrm_e neg xs e)
      clear hs hn h1
      unfold decV
      go_enter Tryz.func88, Tryz.ntmps88
      go_wp2_with fail
      go_loop [22] (fun c => ∃ j : Nat, c = .int .i64 j ∧ Hid (j ≤ xs.length ∧ ∀ i, i < j → Sc.dg (Sc.pk xs i) = true)) (fun c => match c with | .int _ j => xs.length - j.toNat | _ => 0)
      case atStart => exact ⟨0, rfl, Nat.zero_le _, fun i hi => by omega⟩
      case round =>
        obtain ⟨j, rfl, I⟩ := hrel
        have hjb : (j : Int) ≤ 281474976710656 := by have := I.out.1; have := HN.out; omega
        by_cases hj : j < xs.length
        · have hji : (j : Int) < (xs.length : Int) := by omega
          have hx := HS.out.pk j
          have D := hid (fun wx => DG.out j wx)
          cases hd : Sc.dg (Sc.pk xs j) with
          | true =>
            rw [hd] at D
            have I2 : Hid (j + 1 ≤ xs.length ∧ ∀ i, i < j + 1 → Sc.dg (Sc.pk xs i) = true) := ⟨by omega, fun i hi => by
              by_cases c : i = j
              · subst c; exact hd
              · exact I.out.2 i (by omega)⟩
            clear hd I
            go_wp2_with fail
            refine (D.out _).mono ?_
            rintro r w1 ⟨rfl, rfl⟩
            go_wp2_with fail
            go_round
            case rel => exact ⟨j + 1, by go_num, I2.out⟩
            case measure => simp; omega
          | false =>
            rw [hd] at D
            have Z2 := hid (ZF.out (IN.out j hj hd))
            clear hd
            go_wp2_with fail
            refine (D.out _).mono ?_
            rintro r w1 ⟨rfl, rfl⟩
            go_wp2_with fail
            (try simp only [Exit.inBlock, Exit.then])
            refine bodyPost_ret (results_row_tmp rfl _ _ (w.heap.size + 1) 29 _ (0, 0) _ rfl (Two3.new w _ _ _ _ _ _).2.2 Tryz.underlying29 rfl (by kernel_rfl)) rfl ?_
            exact Z2.out _ (Two3.new w _ _ _ _ _ _).1
        · have hji : ¬ (j : Int) < (xs.length : Int) := by omega
          have ID2 := hid (ID.out fun i hi => I.out.2 i (by omega))
          have Z := hid (Two3.new w (.bool neg) (.string s) (.int .i64 e) (.bool false) (.string ⟨#[]⟩) (.int .i64 0))
          clear I
          go_wp2_with fail
          refine (T.out _).mono ?_
          rintro r w1 ⟨v, rfl, ⟨t, hv, ht⟩, hB⟩
          unfold decV at hv
          subst hv
          have S := hid ((Z.out.on hB).putA (.bool (Sc.nrm neg xs e).neg) (.string t) (.int .i64 (Sc.nrm neg xs e).e))
          obtain ⟨⟨c0, c1, c2⟩, f0, f1, f2⟩ := (Z.out.on hB).2.1.cells
          obtain ⟨⟨d0, d1, d2⟩, g0, g1, g2⟩ := (Z.out.on hB).2.2.cells
          have HT := hid ht
          clear hB ht Z T
          by_cases hb : (Sc.nrm neg xs e).e ≤ 1152921504606846976
          · have isd := ID2.out.2 hb
            have GG : Hid (∀ w', Below w.heap.size w w' → SlimTold neg xs e w (.returned (.tuple #[.agg #[.bool (Sc.nrm neg xs e).neg, .string t, .int .i64 (Sc.nrm neg xs e).e], .bool true])) w') := fun w' b => ⟨_, by rw [decide_eq_true isd], by unfold nmd; rw [if_pos isd]; exact ⟨t, rfl, HT.out⟩, b⟩
            clear isd ID ID2 IN NE
            generalize Sc.nrm neg xs e = N at *
            go_wp2_with fail
            (try simp only [Exit.inBlock, Exit.then])
            refine bodyPost_ret (results_row_tmp rfl _ _ (w.heap.size + 1) 29 _ (0, 0) _ rfl (S.out.putB _ _ _).2.2 Tryz.underlying29 rfl (by kernel_rfl)) rfl ?_
            exact GG.out _ (S.out.putB _ _ _).1
          · have Z2 := hid (ZF.out fun c => hb (ID2.out.1 c))
            have hb2 : 1152921504606846976 < (Sc.nrm neg xs e).e := by omega
            clear ID ID2 IN NE
            generalize Sc.nrm neg xs e = N at *
            go_wp2_with fail
            (try simp only [Exit.inBlock, Exit.then])
            refine bodyPost_ret (results_row_tmp rfl _ _ (w.heap.size + 1) 29 _ (0, 0) _ rfl (S.out.putB _ _ _).2.2 Tryz.underlying29 rfl (by kernel_rfl)) rfl ?_
            exact Z2.out _ (S.out.putB _ _ _).1
    · have Z2 := hid (ZF.out fun c => h2 ⟨c.2.1, c.2.2.1⟩)
      rcases (show e < -1152921504606846976 ∨ (-1152921504606846976 ≤ e ∧ 1152921504606846976 < e) by omega) with he | ⟨he0, he⟩
      all_goals
        clear hs hn h1 ZF h2
        unfold decV
        go_enter Tryz.func88, Tryz.ntmps88
        go_wp2_with fail
        (try simp only [Exit.inBlock, Exit.then])
        refine bodyPost_ret (results_row_tmp rfl _ _ (w.heap.size + 1) 29 _ (0, 0) _ rfl (Two3.new w _ _ _ _ _ _).2.2 Tryz.underlying29 rfl (by kernel_rfl)) rfl ?_
        exact Z2.out _ (Two3.new w _ _ _ _ _ _).1
end Go.Proofs.YtggikfcdecnooaaGreatDoor

namespace Go.Proofs.YtggikfcdecnooaaGreatDoor
open Go Go.RowKit Go.Deep

def errOf (ds : List Int) (e : Int) : Int := if Sc.IsDec ds e then 0 else 80

def NormTold (neg : Bool) (xs : List Int) (e : Int) (w : World) (r : Ending) (w' : World) : Prop := ∃ v, r = .returned (.tuple #[v, .int .i64 (errOf xs e)]) ∧ DecIs v (nmd neg xs e) ∧ Below w.heap.size w w'

set_option maxRecDepth 100000 in
set_option maxHeartbeats 2000000 in
theorem norm_any (neg : Bool) (s : ByteArray) (xs : List Int) (e : Int) (w : World) (hs : Str s xs) (hn : xs.length ≤ 281474976710655) :
    Calls Tryz.prog 53 #[decV neg s e] w fun r w' => NormTold neg xs e w r w' := by
  have T := hid (fun wx => slim_any neg s xs e wx hs (by omega))
  have Z := hid (Two3.new w (.bool neg) (.string s) (.int .i64 e) (.bool false) (.string ⟨#[]⟩) (.int .i64 0))
  have LN : Hid ((nmd neg xs e).ds.length ≤ 281474976710656) := by
    show _ ≤ _
    unfold nmd
    split
    · exact nrm_ds_len _ _ _ (by omega)
    · simp
  clear hs hn
  unfold decV at T ⊢
  go_enter Tryz.func53, Tryz.ntmps53
  go_wp2_with fail
  refine (T.out _).mono ?_
  rintro r w1 ⟨v, rfl, ⟨t, hv, ht⟩, hB⟩
  unfold decV at hv
  subst hv
  have S := hid ((Z.out.on hB).putA (.bool (nmd neg xs e).neg) (.string t) (.int .i64 (nmd neg xs e).e))
  obtain ⟨⟨c0, c1, c2⟩, f0, f1, f2⟩ := (Z.out.on hB).2.1.cells
  have HT := hid ht
  have O := hid (fun wx => own_any (nmd neg xs e).neg t (nmd neg xs e).e wx (by rw [ht.size]; exact LN.out))
  unfold decV at O
  obtain ⟨d, hd⟩ : ∃ d, decide (Sc.IsDec xs e) = d := ⟨_, rfl⟩
  rw [hd]
  cases d with
  | true =>
    have E : Hid (errOf xs e = 0) := by show _ = _; unfold errOf; rw [if_pos (of_decide_eq_true hd)]
    have GG : Hid (∀ w', Below w.heap.size w w' → NormTold neg xs e w (.returned (.tuple #[.agg #[.bool (nmd neg xs e).neg, .string t, .int .i64 (nmd neg xs e).e], .int .i64 0])) w') := fun w' b => ⟨_, by rw [E.out]; rfl, ⟨t, rfl, HT.out⟩, b⟩
    obtain ⟨⟨d0, d1, d2⟩, g0, g1, g2⟩ := (Z.out.on hB).2.2.cells
    clear hB ht Z T hd E
    generalize nmd neg xs e = N at *
    go_wp2_with fail
    refine (O.out _).mono ?_
    rintro r w2 ⟨rfl, hB⟩
    have S2 := hid (S.out.on hB)
    clear c0 c1 c2 f0 f1 f2 d0 d1 d2 g0 g1 g2 hB
    obtain ⟨⟨d0, d1, d2⟩, g0, g1, g2⟩ := S2.out.2.2.cells
    go_wp2_with fail
    (try simp only [Exit.inBlock, Exit.then])
    refine bodyPost_ret (results_row_tmp rfl _ _ (w.heap.size + 1) 29 _ (0, 0) _ rfl (S2.out.putB _ _ _).2.2 Tryz.underlying29 rfl (by kernel_rfl)) rfl ?_
    exact GG.out _ (S2.out.putB _ _ _).1
  | false =>
    have hnd := of_decide_eq_false hd
    have E : Hid (errOf xs e = 80) := by show _ = _; unfold errOf; rw [if_neg hnd]
    have EN : Hid (nmd neg xs e = ⟨false, [], 0⟩) := by show _ = _; unfold nmd; rw [if_neg hnd]
    have GG : Hid (∀ w', Below w.heap.size w w' → NormTold neg xs e w (.returned (.tuple #[.agg #[.bool false, .string ⟨#[]⟩, .int .i64 0], .int .i64 80])) w') := fun w' b => ⟨_, by rw [E.out], by rw [EN.out]; exact ⟨_, rfl, str_nil0⟩, b⟩
    obtain ⟨⟨d0, d1, d2⟩, g0, g1, g2⟩ := (Z.out.on hB).2.2.cells
    clear hB ht Z T hd hnd O
    rw [EN.out] at S ⊢
    go_wp2_with fail
    (try simp only [Exit.inBlock, Exit.then])
    refine bodyPost_ret (results_row_tmp rfl _ _ (w.heap.size + 1) 29 _ (0, 0) _ rfl (S.out.putB _ _ _).2.2 Tryz.underlying29 rfl (by kernel_rfl)) rfl ?_
    exact GG.out _ (S.out.putB _ _ _).1
end Go.Proofs.YtggikfcdecnooaaGreatDoor

namespace Go.Proofs.YtggikfcdecnooaaGreatDoor
open Go Go.RowKit Go.Deep

set_option maxRecDepth 100000 in
theorem zfinite_any (d : Int) (w : World) (h0 : 0 ≤ d) (h1 : d < 18446744073709551616) :
    Calls Tryz.prog 16 #[.int .u64 d] w fun e w' => e = .returned (.bool (Ie.fnt d)) ∧ w' = w := by
  have C := hid (class_any d w h0 h1)
  have E : Hid (Ie.fnt d = decide (Ie.cls d < 3)) := rfl
  generalize Ie.cls d = c at *
  go_enter Tryz.func16, Tryz.ntmps16
  go_wp2_with fail
  refine C.out.mono ?_
  rintro e w' ⟨rfl, rfl⟩
  go_wp2_with fail
  go_ret
  exact ⟨fretB E.out.symm, rfl⟩

/-- The sign bit. -/
def Sh.ng (d : Int) : Bool := decide (9223372036854775808 ≤ d)
theorem zand_sign (d : Int) (h0 : 0 ≤ d) (h1 : d < 18446744073709551616) : (bits .and .u64 d 9223372036854775808 != 0) = Sh.ng d := by
  unfold Sh.ng
  rw [Ib.sign_and d h0 h1]
  rcases (show d < 9223372036854775808 ∨ 9223372036854775808 ≤ d by omega) with c | c
  · have e : d / 9223372036854775808 = 0 := by omega
    rw [e]
    simp
    omega
  · have e : d / 9223372036854775808 = 1 := by omega
    rw [e]
    simp [c]

set_option maxRecDepth 100000 in
theorem znegative_any (d : Int) (w : World) (h0 : 0 ≤ d) (h1 : d < 18446744073709551616) :
    Calls Tryz.prog 8 #[.int .u64 d] w fun e w' => e = .returned (.bool (Sh.ng d)) ∧ w' = w := by
  have AS := zand_sign d h0 h1
  generalize Sh.ng d = n at *
  go_enter Tryz.func8, Tryz.ntmps8
  go_wp2_with fail
  go_ret
  exact ⟨rfl, rfl⟩

/-- s writes T in base 10, zero too. -/
structure DigZ (T : Int) (s : ByteArray) (xs : List Int) : Prop where
  str : Str s xs
  digs : Digs xs
  val : dv xs = T
  ne : xs ≠ []
  len : xs.length ≤ 3000

set_option maxRecDepth 100000 in
theorem zdigits_any (p : Option Addr) (os : List Int) (B : Nat) (T : Int) (w : World) (K : Nat) (A : Ans B w p os T) (h0 : 0 ≤ T) (hK : K ≤ 2000) (hb : T < 10 ^ K) :
    Calls Tryz.prog 48 #[.slice p (List.length os) (List.length os)] w fun e w' => ∃ s xs, e = .returned (.tuple #[.string s, .int .i64 0]) ∧ DigZ T s xs ∧ Below w.heap.size w w' := by
  rcases (show 0 < T ∨ T = 0 by omega) with hT | hT
  · refine (fdigits_any p os B T w K A hT hK hb).mono ?_
    rintro e w' ⟨s, xs, rfl, D, hB⟩
    exact ⟨s, xs, rfl, ⟨D.str, D.digs, D.val, D.ne, D.len⟩, hB⟩
  · subst hT
    have hp : (0 : Int) < Nm.pw 4096 := Int.lt_of_le_of_lt (Int.le_of_lt (show (0 : Int) < 10 ^ 0 by decide)) (fp10_pw (by omega))
    have IB : Hid (Calls Tryz.prog 81 #[.slice p (List.length os) (List.length os), .int .i64 10, .bool false] w fun e w' => ∃ s xs, e = .returned (.tuple #[.string s, .int .i64 0]) ∧ DigZ 0 s xs ∧ Below w.heap.size w w') := by
      refine (inBase_any p _ _ os 10 false w (A.argT hp) (by omega) (by omega)).mono ?_
      rintro e w' ⟨s, xs, E, rfl, hs, h, hB⟩
      have ts := A.tsT hp
      have hv : Nm.val os = 0 := A.2.2.2.1
      have hz : Nm.tsize os = 0 := (Nm.tsize_zero_iff A.2.1).2 hv
      cases h with
      | big c => omega
      | base _ c => omega
      | zero c _ _ => exact ⟨s, _, rfl, ⟨hs, fun d hd => by simp at hd; omega, rfl, by simp, by simp⟩, hB⟩
      | ok L c1 c2 c3 c4 c5 => omega
    clear A hb hp hK h0
    go_enter Tryz.func48, Tryz.ntmps48
    go_wp2_with fail
    refine IB.out.mono ?_
    rintro e w' ⟨s, xs, rfl, D, hB⟩
    have HD := hid (And.intro D hB)
    clear D hB IB
    go_wp2_with fail
    go_ret2
    exact ⟨s, xs, rfl, HD.out.1, HD.out.2⟩

set_option maxRecDepth 100000 in
set_option maxHeartbeats 2000000 in
theorem znormal_any (s : ByteArray) (xs : List Int) (q : Int) (w : World) (hs : Str s xs) (hd : Digs xs) (hn : xs ≠ []) (h0 : -1075 ≤ q) (h1 : q ≤ 100000) (hl : xs.length ≤ 100000) :
    Calls Tryz.prog 33 #[.string s, .int .i64 q] w fun r w' => ∃ v, r = .returned v ∧ DecIs v (Sh.dd (dv xs * 10 ^ (q + 1075).toNat)) ∧ Below w.heap.size w w' := by
  have NO := hid (fun wx : World => norm_any false s xs q wx hs (by omega))
  have E0 : Hid (errOf xs q = 0 ∧ nmd false xs q = Sh.dd (dv xs * 10 ^ (q + 1075).toNat)) := by
    have i := Sh.isdec hd hn h0 h1 hl
    refine ⟨by rw [errOf, if_pos i], ?_⟩
    rw [nmd, if_pos i]
    exact Sh.nrm_dd hd h0
  have Z := FR3.new w (.bool false) (.string ⟨#[]⟩) (.int .i64 0)
  have ZB := hid (alloc_b w (.cells #[.bool false, .string ⟨#[]⟩, .int .i64 0] 29))
  have HZ : Hid (FR3 (w.alloc (.cells #[.bool false, .string ⟨#[]⟩, .int .i64 0] 29)) w.heap.size (.bool false) (.string ⟨#[]⟩) (.int .i64 0) ∧ w.heap.size < (w.alloc (.cells #[.bool false, .string ⟨#[]⟩, .int .i64 0] 29)).heap.size) := ⟨Z, Z.lt⟩
  unfold NormTold decV at NO
  rw [E0.out.1, E0.out.2] at NO
  clear E0 Z hs hd hn h0 h1 hl
  generalize Sh.dd (dv xs * 10 ^ (q + 1075).toNat) = DD at *
  go_enter Tryz.func33, Tryz.ntmps33
  go_wp2_with fail
  refine (NO.out _).mono ?_
  rintro e w1 ⟨v, rfl, ⟨t, hv, ht⟩, hB⟩
  unfold decV at hv
  subst hv
  have R6 := hid (HZ.out.1.below (hB.trans ((alloc_b w1 (.cells #[.bool DD.neg, .string t, .int .i64 DD.e] 29)).mono hB.size)) HZ.out.2)
  have HB6 := hid (ZB.out.trans ((hB.trans ((alloc_b w1 (.cells #[.bool DD.neg, .string t, .int .i64 DD.e] 29)).mono hB.size)).mono ZB.out.size))
  obtain ⟨⟨c0, c1, c2⟩, f0, f1, f2⟩ := R6.out.cells
  have G6 : Hid (∃ v, Ending.returned (.agg #[.bool DD.neg, .string t, .int .i64 DD.e]) = .returned v ∧ DecIs v DD) := ⟨_, rfl, t, rfl, ht⟩
  clear ht NO hB HZ ZB
  go_wp2_with fail
  (try simp only [Exit.inBlock, Exit.then])
  refine bodyPost_ret (results_cell_row rfl _ _ w.heap.size 29 _ (0, 0) _ rfl (R6.out.put _ _ _) Tryz.underlying29 rfl (by kernel_rfl)) rfl ?_
  obtain ⟨v, h1, h2⟩ := G6.out
  exact ⟨v, h1, h2, fset3_below HB6.out (Nat.le_refl _)⟩

theorem zroom {q : Int} {n k : Nat} (q1 : q < 18014398509481984) : q * 2 ^ k * 5 ^ n < 10 ^ (20 + n + k) := by
  have h1 := f5_10 n
  have h2 := f2_10 k
  have p1 : (0 : Int) < 5 ^ n := Int.pow_pos (by omega)
  have p2 : (0 : Int) < 2 ^ k := Int.pow_pos (by omega)
  have p3 : (0 : Int) < 10 ^ n := Int.pow_pos (by omega)
  have a1 : q * 2 ^ k * 5 ^ n ≤ 18014398509481984 * 2 ^ k * 5 ^ n := Int.mul_le_mul_of_nonneg_right (Int.mul_le_mul_of_nonneg_right (Int.le_of_lt q1) (Int.le_of_lt p2)) (Int.le_of_lt p1)
  have a2 : 18014398509481984 * 2 ^ k * 5 ^ n ≤ 18014398509481984 * 10 ^ k * (10 : Int) ^ n := Int.mul_le_mul (Int.mul_le_mul_of_nonneg_left h2 (by omega)) h1 (Int.le_of_lt p1) (Int.mul_nonneg (by omega) (Int.le_of_lt (Int.pow_pos (by omega))))
  have a3 : 18014398509481984 * 10 ^ k * (10 : Int) ^ n < 100000000000000000000 * 10 ^ k * 10 ^ n := Int.mul_lt_mul_of_pos_right (Int.mul_lt_mul_of_pos_right (by omega) (Int.pow_pos (by omega))) p3
  rw [Int.pow_add, Int.pow_add, show (10 : Int) ^ 20 = 100000000000000000000 by decide, Int.mul_assoc 100000000000000000000, Int.mul_comm ((10 : Int) ^ n) (10 ^ k), ← Int.mul_assoc]
  omega

/-- The number in units. -/
theorem zunits {m e : Int} (h0 : -1075 ≤ e) : m * 2 ^ e.toNat * 5 ^ (-e).toNat * 10 ^ (min e 0 + 1075).toNat = m * 2 ^ (e + 1075).toNat * Sh.T5 := by
  unfold Sh.T5
  rcases (show 0 ≤ e ∨ e < 0 by omega) with c | c
  · rw [show (-e).toNat = 0 by omega, show (min e 0 + 1075).toNat = 1075 by omega, show (e + 1075).toNat = e.toNat + 1075 by omega, Int.pow_zero, Int.mul_one, Int.pow_add]
    generalize 1075 = z
    rw [show (10 : Int) = 2 * 5 from rfl, Int.mul_pow]
    generalize (5 : Int) ^ z = x1
    generalize (2 : Int) ^ z = x2
    generalize (2 : Int) ^ e.toNat = x3
    ac_rfl
  · obtain ⟨n, hn⟩ : ∃ n : Nat, (-e).toNat = n := ⟨_, rfl⟩
    obtain ⟨k, hk⟩ : ∃ k : Nat, (e + 1075).toNat = k := ⟨_, rfl⟩
    have e1 : 1075 = n + k := by omega
    rw [show e.toNat = 0 by omega, show (min e 0 + 1075).toNat = k by omega, hn, hk, Int.pow_zero, Int.mul_one]
    conv => rhs; rw [e1]
    rw [Int.pow_add, show (10 : Int) = 2 * 5 from rfl, Int.mul_pow]
    generalize (5 : Int) ^ n = x1
    generalize (5 : Int) ^ k = x2
    generalize (2 : Int) ^ k = x3
    ac_rfl

set_option maxRecDepth 100000 in
set_option maxHeartbeats 4000000 in
theorem zexact_any (m e : Int) (w : World) (h0 : 0 ≤ m) (h1 : m < 18014398509481984) (e0 : -1075 ≤ e) (e1 : e ≤ 971) :
    Calls Tryz.prog 29 #[.int .u64 m, .int .i64 e] w fun r w' => ∃ v, r = .returned v ∧ DecIs v (Sh.dd (m * 2 ^ (e + 1075).toNat * Sh.T5)) ∧ Below w.heap.size w w' := by
  have FU := hid (fun (wx : World) => fromUint_any m wx h0 (by omega))
  obtain ⟨k, hk⟩ : ∃ k : Nat, e.toNat = k := ⟨_, rfl⟩
  obtain ⟨n, hn⟩ : ∃ n : Nat, (-e).toNat = n := ⟨_, rfl⟩
  have PW := hid (fun (wx : World) => fpow5_ok (n : Int) n wx rfl (by omega))
  have rT := zroom (q := m) (n := n) (k := k) h1
  have tp : (0 : Int) < 2 ^ k := Int.pow_pos (by omega)
  have fp : (0 : Int) < 5 ^ n := Int.pow_pos (by omega)
  have r1 : m * 2 ^ k < Nm.pw 4096 := by
    have := zroom (q := m) (n := 0) (k := k) h1
    rw [Int.pow_zero, Int.mul_one] at this
    exact Int.lt_trans this (fp10_pw (by omega))
  have r5 : (5 : Int) ^ n < Nm.pw 4096 := Int.lt_of_le_of_lt (f5_10 n) (fp10_pw (by omega))
  have SH : Hid (∀ (wx : World) (p : Option Addr) (os : List Int) (B : Nat), Ans B wx p os m → Calls Tryz.prog 45 #[.slice p (List.length os) (List.length os), .int .i64 (k : Int)] wx fun e w' => ∃ r os, e = .returned (.tuple #[.slice r (List.length os) (List.length os), .int .i64 0]) ∧ Ans wx.heap.size w' r os (m * 2 ^ k) ∧ Below wx.heap.size wx w') := by
    intro wx p os B A
    have rm : m < Nm.pw 4096 := Int.lt_trans (show m < 10 ^ 20 by rw [show (10 : Int) ^ 20 = 100000000000000000000 by decide]; omega) (fp10_pw (by omega))
    have s := fshl_any p _ _ os (k : Int) k wx (A.argT rm) (A.tsT rm) rfl (by rw [A.2.2.2.1]; exact r1)
    rw [A.2.2.2.1] at s
    exact s
  have MU : Hid (∀ (wx : World) (p r : Option Addr) (os zs : List Int), (∃ B, Ans B wx p os (m * 2 ^ k)) → (∃ B, Ans B wx r zs (5 ^ n)) → Calls Tryz.prog 47 #[.slice p (List.length os) (List.length os), .slice r (List.length zs) (List.length zs)] wx fun e w' => ∃ r os, e = .returned (.tuple #[.slice r (List.length os) (List.length os), .int .i64 0]) ∧ Ans wx.heap.size w' r os (m * 2 ^ k * 5 ^ n) ∧ Below wx.heap.size wx w') := by
    rintro wx p r os zs ⟨B, A⟩ ⟨B', A'⟩
    have s := mul_ok p r _ _ _ _ os zs wx (A.argT r1) (A'.argT r5) (A.tsT r1) (A'.tsT r5) (by rw [A.2.2.2.1, A'.2.2.2.1]; exact Int.lt_trans rT (fp10_pw (by omega)))
    rw [A.2.2.2.1, A'.2.2.2.1] at s
    exact s
  have DG : Hid (∀ (wx : World) (r : Option Addr) (zs : List Int) (B : Nat), Ans B wx r zs (m * 2 ^ k * 5 ^ n) → Calls Tryz.prog 48 #[.slice r (List.length zs) (List.length zs)] wx fun e w' => ∃ s xs, e = .returned (.tuple #[.string s, .int .i64 0]) ∧ DigZ (m * 2 ^ k * 5 ^ n) s xs ∧ Below wx.heap.size wx w') :=
    fun wx r zs B A => zdigits_any r zs B _ wx (20 + n + k) A (Int.mul_nonneg (Int.mul_nonneg h0 (Int.le_of_lt tp)) (Int.le_of_lt fp)) (by omega) rT
  have NM : Hid (∀ (wx : World) (s : ByteArray) (xs : List Int), DigZ (m * 2 ^ k * 5 ^ n) s xs → Calls Tryz.prog 33 #[.string s, .int .i64 (min e 0)] wx fun r w' => ∃ v, r = .returned v ∧ DecIs v (Sh.dd (m * 2 ^ (e + 1075).toNat * Sh.T5)) ∧ Below wx.heap.size wx w') := by
    intro wx s xs D
    have h := znormal_any s xs (min e 0) wx D.str D.digs D.ne (by omega) (by omega) (by have := D.len; omega)
    rw [D.val, ← hk, ← hn, zunits e0] at h
    exact h
  have Z := FR3.new w (.bool false) (.string ⟨#[]⟩) (.int .i64 0)
  have ZB := hid (alloc_b w (.cells #[.bool false, .string ⟨#[]⟩, .int .i64 0] 29))
  have HZ : Hid (FR3 (w.alloc (.cells #[.bool false, .string ⟨#[]⟩, .int .i64 0] 29)) w.heap.size (.bool false) (.string ⟨#[]⟩) (.int .i64 0) ∧ w.heap.size < (w.alloc (.cells #[.bool false, .string ⟨#[]⟩, .int .i64 0] 29)).heap.size) := ⟨Z, Z.lt⟩
  have mk : m * 2 ^ k = m * 2 ^ k := rfl
  generalize Sh.dd (m * 2 ^ (e + 1075).toNat * Sh.T5) = DD at *
  generalize m * 2 ^ k * 5 ^ n = T at *
  clear rT tp fp r1 r5 Z h0 mk
  rcases (show 0 < e ∨ e ≤ 0 by omega) with c | c
  · have hke : e = (k : Int) := by omega
    have hn0 : n = 0 := by omega
    subst hke
    subst hn0
    rw [show min (k : Int) 0 = 0 by omega] at NM
    rw [show ((0 : Nat) : Int) = 0 from rfl] at PW
    clear hk hn e0
    go_enter Tryz.func29, Tryz.ntmps29
    go_wp2_with fail
    refine (FU.out _).mono ?_
    rintro e w1 ⟨p, os, rfl, A1, B1⟩
    have S1 := hid (SH.out _ _ _ _ A1)
    have HB1 := hid B1
    clear A1 B1 SH FU
    go_wp2_with fail
    refine S1.out.mono ?_
    rintro e w2 ⟨r2, z2, rfl, A2, B2⟩
    have SA : Hid (∀ wx, Below w2.heap.size w2 wx → ∃ B, Ans B wx r2 z2 (m * 2 ^ k)) := fun wx h => ⟨_, A2.below h (Nat.le_refl _)⟩
    have HB2 := hid (HB1.out.trans (B2.mono HB1.out.size))
    clear A2 B2 S1 HB1
    go_wp2_with fail
    refine (PW.out _).mono ?_
    rintro e w3 ⟨r3, z3, rfl, A3, B3⟩
    have M3 := hid (MU.out _ _ _ _ _ (SA.out _ B3) ⟨_, A3⟩)
    have HB3 := hid (HB2.out.trans (B3.mono HB2.out.size))
    clear A3 B3 PW SA HB2 MU
    go_wp2_with fail
    refine M3.out.mono ?_
    rintro e w4 ⟨r4, z4, rfl, A4, B4⟩
    have D4 := hid (DG.out _ _ _ _ A4)
    have HB4 := hid (HB3.out.trans (B4.mono HB3.out.size))
    clear A4 B4 M3 HB3 DG
    go_wp2_with fail
    refine D4.out.mono ?_
    rintro e w5 ⟨s, xs, rfl, D5, B5⟩
    have N5 := hid (NM.out w5 s xs D5)
    have HB5 := hid (HB4.out.trans (B5.mono HB4.out.size))
    clear D5 B5 D4 HB4 NM
    go_wp2_with fail
    refine N5.out.mono ?_
    rintro e w6 ⟨v, rfl, ⟨t, hv, ht⟩, B6⟩
    unfold decV at hv
    subst hv
    have HB6 := hid (HB5.out.trans (B6.mono HB5.out.size))
    have R6 := hid (HZ.out.1.below HB6.out HZ.out.2)
    obtain ⟨⟨c0, c1, c2⟩, f0, f1, f2⟩ := R6.out.cells
    have G6 : Hid (∃ v, Ending.returned (.agg #[.bool DD.neg, .string t, .int .i64 DD.e]) = .returned v ∧ DecIs v DD) := ⟨_, rfl, t, rfl, ht⟩
    clear B6 N5 HB5 ht
    go_wp2_with fail
    (try simp only [Exit.inBlock, Exit.then])
    refine bodyPost_ret (results_cell_row rfl _ _ w.heap.size 29 _ (0, 0) _ rfl (R6.out.put _ _ _) Tryz.underlying29 rfl (by kernel_rfl)) rfl ?_
    obtain ⟨v, h1, h2⟩ := G6.out
    exact ⟨v, h1, h2, fset3_below (ZB.out.trans (HB6.out.mono ZB.out.size)) (Nat.le_refl _)⟩
  · have hk0 : k = 0 := by omega
    subst hk0
    rw [show min e 0 = e by omega] at NM
    rw [show ((n : Nat) : Int) = -e by omega] at PW
    clear hk SH
    go_enter Tryz.func29, Tryz.ntmps29
    go_wp2_with fail
    refine (FU.out _).mono ?_
    rintro e' w2 ⟨r2, z2, rfl, A2, B2⟩
    have SA : Hid (∀ wx, Below w2.heap.size w2 wx → ∃ B, Ans B wx r2 z2 (m * 2 ^ 0)) := fun wx h => ⟨_, by rw [Int.pow_zero, Int.mul_one]; exact A2.below h (Nat.le_refl _)⟩
    have HB2 := hid B2
    clear A2 B2 FU
    go_wp2_with fail
    refine (PW.out _).mono ?_
    rintro e9 w3 ⟨r3, z3, rfl, A3, B3⟩
    have M3 := hid (MU.out _ _ _ _ _ (SA.out _ B3) ⟨_, A3⟩)
    have HB3 := hid (HB2.out.trans (B3.mono HB2.out.size))
    clear A3 B3 PW SA HB2 MU
    go_wp2_with fail
    refine M3.out.mono ?_
    rintro e9 w4 ⟨r4, z4, rfl, A4, B4⟩
    have D4 := hid (DG.out _ _ _ _ A4)
    have HB4 := hid (HB3.out.trans (B4.mono HB3.out.size))
    clear A4 B4 M3 HB3 DG
    go_wp2_with fail
    refine D4.out.mono ?_
    rintro e9 w5 ⟨s, xs, rfl, D5, B5⟩
    have N5 := hid (NM.out w5 s xs D5)
    have HB5 := hid (HB4.out.trans (B5.mono HB4.out.size))
    clear D5 B5 D4 HB4 NM
    go_wp2_with fail
    refine N5.out.mono ?_
    rintro e9 w6 ⟨v, rfl, ⟨t, hv, ht⟩, B6⟩
    unfold decV at hv
    subst hv
    have HB6 := hid (HB5.out.trans (B6.mono HB5.out.size))
    have R6 := hid (HZ.out.1.below HB6.out HZ.out.2)
    obtain ⟨⟨c0, c1, c2⟩, f0, f1, f2⟩ := R6.out.cells
    have G6 : Hid (∃ v, Ending.returned (.agg #[.bool DD.neg, .string t, .int .i64 DD.e]) = .returned v ∧ DecIs v DD) := ⟨_, rfl, t, rfl, ht⟩
    clear B6 N5 HB5 ht
    go_wp2_with fail
    (try simp only [Exit.inBlock, Exit.then])
    refine bodyPost_ret (results_cell_row rfl _ _ w.heap.size 29 _ (0, 0) _ rfl (R6.out.put _ _ _) Tryz.underlying29 rfl (by kernel_rfl)) rfl ?_
    obtain ⟨v, h1, h2⟩ := G6.out
    exact ⟨v, h1, h2, fset3_below (ZB.out.trans (HB6.out.mono ZB.out.size)) (Nat.le_refl _)⟩
end Go.Proofs.YtggikfcdecnooaaGreatDoor

/-
  ieee: Neg.
-/
namespace Go.Proofs.YtggikfcdecnooaaGreatDoor
open Go Go.RowKit Go.Deep

set_option maxRecDepth 100000 in
theorem neg_any (d : Int) (w : World) (h0 : 0 ≤ d) (h1 : d < 18446744073709551616) :
    Calls Tryz.prog 49 #[.int .u64 d] w fun e w' => e = .returned (.int .u64 (Ie.ng d)) ∧ w' = w := by
  have B : bits .xor .u64 d 9223372036854775808 = Ie.ng d := Ib.sign_xor d h0 h1
  go_enter Tryz.func49, Tryz.ntmps49
  go_wp2
  go_ret
  exact ⟨rfl, rfl⟩
end Go.Proofs.YtggikfcdecnooaaGreatDoor

/-
  ieee: the order of doubles, in numbers.
-/
namespace Go.Proofs.YtggikfcdecnooaaGreatDoor
open Go Go.RowKit Go.Deep

namespace Ie
/-- No NaN. -/
def okd (d : Int) : Bool := decide (d % 9223372036854775808 ≤ 9218868437227405312)
/-- The rank. -/
def rk (d : Int) : Int := if d < 9223372036854775808 then d else 9223372036854775808 - d
theorem cls4 (d : Int) : cls d = 4 ↔ okd d = false := by
  rw [okd, decide_eq_false_iff_not, cls]
  by_cases a : fld d = 0
  · rw [if_pos a]
    simp only [fld] at a
    by_cases b : d % 4503599627370496 = 0
    · rw [if_pos b]; omega
    · rw [if_neg b]; omega
  · rw [if_neg a]
    by_cases c : fld d = 2047
    · rw [if_pos c]
      simp only [fld] at a c
      by_cases b : d % 4503599627370496 = 0
      · rw [if_pos b]; omega
      · rw [if_neg b]; omega
    · rw [if_neg c]
      simp only [fld] at a c
      omega
/-- Rank's number. -/
def rkv (d : Int) : Int := if okd d = true then rk d else 0
/-- The next one above. -/
def upd (d : Int) : Int :=
  if okd d = false then 9221120237041090560 else if d = 9218868437227405312 then d else if d = 9223372036854775808 then 1 else if 9223372036854775808 < d then d - 1 else d + 1
/-- The next one below. -/
def dnd (d : Int) : Int := if okd d = false then 9221120237041090560 else ng (upd (ng d))
/-- The double at a rank. -/
def atr (i : Int) : Int := if i < 0 then 9223372036854775808 - i else i
end Ie

theorem ret_i64b {a b : Int} {c d : Bool} (h : a = b) (k : c = d) : Ending.returned (.tuple #[.int .i64 a, .bool c]) = .returned (.tuple #[.int .i64 b, .bool d]) := by rw [h, k]
theorem ret_u64b {a b : Int} {c d : Bool} (h : a = b) (k : c = d) : Ending.returned (.tuple #[.int .u64 a, .bool c]) = .returned (.tuple #[.int .u64 b, .bool d]) := by rw [h, k]
end Go.Proofs.YtggikfcdecnooaaGreatDoor

/-
  ieee: Up, Down.
-/
namespace Go.Proofs.YtggikfcdecnooaaGreatDoor
open Go Go.RowKit Go.Deep

set_option maxRecDepth 100000 in
set_option maxHeartbeats 2000000 in
theorem up_any (d : Int) (w : World) (h0 : 0 ≤ d) (h1 : d < 18446744073709551616) :
    Calls Tryz.prog 50 #[.int .u64 d] w fun e w' => e = .returned (.int .u64 (Ie.upd d)) ∧ w' = w := by
  have B := Ib.sign_and d h0 h1
  have CL := hid (class_any d w h0 h1)
  have c4 := Ie.cls4 d
  obtain ⟨c, hc⟩ : ∃ c, Ie.cls d = c := ⟨_, rfl⟩
  rw [hc] at CL c4
  obtain ⟨sv, hsv⟩ : ∃ sv, d / 9223372036854775808 * 9223372036854775808 = sv := ⟨_, rfl⟩
  rw [hsv] at B
  by_cases hn : c = 4
  · have E : Hid (9221120237041090560 = Ie.upd d) := by rw [Hid, Ie.upd, if_pos (c4.1 hn)]
    subst hn
    clear hc hsv c4
    go_enter Tryz.func50, Tryz.ntmps50
    go_wp2_with fail
    refine CL.out.mono ?_
    rintro e w' ⟨rfl, rfl⟩
    go_wp2_with fail
    go_ret
    exact ⟨i_retU E.out, rfl⟩
  · have ok : Ie.okd d = true := by
      cases h : Ie.okd d
      · exact absurd (c4.2 h) hn
      · rfl
    have hn' : (c == 4) = false := by rw [beq_eq_false_iff_ne]; exact hn
    have E0 : Ie.upd d = if d = 9218868437227405312 then d else if d = 9223372036854775808 then 1 else if 9223372036854775808 < d then d - 1 else d + 1 := by rw [Ie.upd, ok, if_neg (by decide)]
    by_cases e1 : d = 9218868437227405312
    · subst e1
      rw [if_pos rfl] at E0
      have E := hid E0
      clear hc hsv c4 ok E0 hn
      go_enter Tryz.func50, Tryz.ntmps50
      go_wp2_with fail
      refine CL.out.mono ?_
      rintro e w' ⟨rfl, rfl⟩
      go_wp2_with fail
      go_ret
      exact ⟨i_retU E.out.symm, rfl⟩
    · have e1' : (d == 9218868437227405312) = false := by rw [beq_eq_false_iff_ne]; exact e1
      rw [if_neg e1] at E0
      by_cases e2 : d = 9223372036854775808
      · subst e2
        rw [if_pos rfl] at E0
        have E := hid E0
        clear hc hsv c4 ok E0 hn
        go_enter Tryz.func50, Tryz.ntmps50
        go_wp2_with fail
        refine CL.out.mono ?_
        rintro e w' ⟨rfl, rfl⟩
        go_wp2_with fail
        go_ret
        exact ⟨i_retU E.out.symm, rfl⟩
      · have e2' : (d == 9223372036854775808) = false := by rw [beq_eq_false_iff_ne]; exact e2
        rw [if_neg e2] at E0
        by_cases e3 : 9223372036854775808 < d
        · rw [if_pos e3] at E0
          have E := hid E0
          have hz : sv = 9223372036854775808 := by omega
          subst hz
          clear hc hsv c4 ok E0 hn e1 e2
          go_enter Tryz.func50, Tryz.ntmps50
          go_wp2_with fail
          refine CL.out.mono ?_
          rintro e w' ⟨rfl, rfl⟩
          go_wp2_with fail
          go_ret
          exact ⟨i_retU E.out.symm, rfl⟩
        · rw [if_neg e3] at E0
          have E := hid E0
          have hz : sv = 0 := by omega
          subst hz
          have lt : d < 9223372036854775808 := by omega
          clear hc hsv c4 ok E0 hn e1 e2 e3
          go_enter Tryz.func50, Tryz.ntmps50
          go_wp2_with fail
          refine CL.out.mono ?_
          rintro e w' ⟨rfl, rfl⟩
          go_wp2_with fail
          go_ret
          exact ⟨i_retU E.out.symm, rfl⟩

end Go.Proofs.YtggikfcdecnooaaGreatDoor

/-
  ieee: Down.
-/
namespace Go.Proofs.YtggikfcdecnooaaGreatDoor
open Go Go.RowKit Go.Deep

theorem Ie.ng_bd (d : Int) (h0 : 0 ≤ d) (h1 : d < 18446744073709551616) : 0 ≤ Ie.ng d ∧ Ie.ng d < 18446744073709551616 := by
  simp only [Ie.ng]; split <;> omega

theorem Ie.upd_bd (d : Int) (h0 : 0 ≤ d) (h1 : d < 18446744073709551616) : 0 ≤ Ie.upd d ∧ Ie.upd d < 18446744073709551616 := by
  simp only [Ie.upd]
  split
  · omega
  · split
    · omega
    · split
      · omega
      · split <;> omega

set_option maxRecDepth 100000 in
set_option maxHeartbeats 2000000 in
theorem down_any (d : Int) (w : World) (h0 : 0 ≤ d) (h1 : d < 18446744073709551616) :
    Calls Tryz.prog 31 #[.int .u64 d] w fun e w' => e = .returned (.int .u64 (Ie.dnd d)) ∧ w' = w := by
  have CL := hid (class_any d w h0 h1)
  have c4 := Ie.cls4 d
  obtain ⟨c, hc⟩ : ∃ c, Ie.cls d = c := ⟨_, rfl⟩
  rw [hc] at CL c4
  by_cases hn : c = 4
  · have E : Hid (9221120237041090560 = Ie.dnd d) := by rw [Hid, Ie.dnd, if_pos (c4.1 hn)]
    subst hn
    clear hc c4
    go_enter Tryz.func31, Tryz.ntmps31
    go_wp2_with fail
    refine CL.out.mono ?_
    rintro e w' ⟨rfl, rfl⟩
    go_wp2_with fail
    go_ret
    exact ⟨i_retU E.out, rfl⟩
  · have ok : Ie.okd d = true := by
      cases h : Ie.okd d
      · exact absurd (c4.2 h) hn
      · rfl
    have hn' : (c == 4) = false := by rw [beq_eq_false_iff_ne]; exact hn
    have E : Hid (Ie.dnd d = Ie.ng (Ie.upd (Ie.ng d))) := by rw [Hid, Ie.dnd, ok, if_neg (by decide)]
    have b1 := Ie.ng_bd d h0 h1
    have b2 := Ie.upd_bd _ b1.1 b1.2
    have N1 := hid (neg_any d w h0 h1)
    have U1 := hid (up_any _ w b1.1 b1.2)
    have N2 := hid (neg_any _ w b2.1 b2.2)
    clear hc c4 ok hn b1 b2
    go_enter Tryz.func31, Tryz.ntmps31
    go_wp2_with fail
    refine CL.out.mono ?_
    rintro e w' ⟨rfl, rfl⟩
    go_wp2_with fail
    refine N1.out.mono ?_
    rintro e w' ⟨rfl, rfl⟩
    go_wp2_with fail
    refine U1.out.mono ?_
    rintro e w' ⟨rfl, rfl⟩
    go_wp2_with fail
    refine N2.out.mono ?_
    rintro e w' ⟨rfl, rfl⟩
    go_wp2_with fail
    go_ret
    exact ⟨i_retU E.out.symm, rfl⟩
end Go.Proofs.YtggikfcdecnooaaGreatDoor

/-
  ieee: Abs.
-/
namespace Go.Proofs.YtggikfcdecnooaaGreatDoor
open Go Go.RowKit Go.Deep

set_option maxRecDepth 100000 in
theorem abs_any (d : Int) (w : World) (h0 : 0 ≤ d) (h1 : d < 18446744073709551616) :
    Calls Tryz.prog 27 #[.int .u64 d] w fun e w' => e = .returned (.int .u64 (d % 9223372036854775808)) ∧ w' = w := by
  have B := Ib.sign_andNot d h0 h1
  go_enter Tryz.func27, Tryz.ntmps27
  go_wp2
  go_ret
  exact ⟨rfl, rfl⟩
end Go.Proofs.YtggikfcdecnooaaGreatDoor

namespace Go.Proofs.YtggikfcdecnooaaGreatDoor
open Go Go.RowKit Go.Deep

/-- A block's cells. -/
def RB (w : World) (b t : Nat) (cs : Array Value) : Prop := w.heap[b]? = some (.cells cs t (0, 0))
theorem RB.new (w : World) (t : Nat) (cs : Array Value) : RB (w.alloc (.cells cs t)) w.heap.size t cs := heap_alloc_new w _
theorem RB.below {B : Nat} {w w' : World} {b t : Nat} {cs : Array Value} (h : RB w b t cs) (hB : Below B w w') (hb : b < B) : RB w' b t cs := by
  rw [RB, hB.block b hb]; exact h
theorem RB.lt {w : World} {b t : Nat} {cs : Array Value} (h : RB w b t cs) : b < w.heap.size := by
  rcases Nat.lt_or_ge b w.heap.size with hl | hl
  · exact hl
  · simp [RB, Array.getElem?_eq_none hl] at h
theorem RB.cell {w : World} {b t : Nat} {cs : Array Value} (h : RB w b t cs) (i : Nat) (v : Value) (hi : cs[i]? = some v) : w.cell? ⟨b, i, none⟩ = some v := by
  simp only [RB] at h
  simp [World.cell?, h, hi]
theorem RB.free {w : World} {b t : Nat} {cs : Array Value} (h : RB w b t cs) (i : Nat) : w.frozen? ⟨b, i, none⟩ = false := by
  simp only [RB] at h
  simp [World.frozen?, h]
theorem RB.far {w : World} {b c o t : Nat} {v : Value} {cs : Array Value} (h : RB w b t cs) (hc : c ≠ b) : RB (w.setCell ⟨c, o, none⟩ v) b t cs := by
  simp only [RB] at *
  simp only [World.setCell, Array.getElem?_modify]
  rw [if_neg hc]; exact h
theorem RB.set {w : World} {b t : Nat} {cs : Array Value} (h : RB w b t cs) (o : Nat) (v : Value) : RB (w.setCell ⟨b, o, none⟩ v) b t (cs.setIfInBounds o v) := fset1 h rfl

def cells10 (a0 a1 a2 b0 b1 b2 c0 c1 c2 d : Value) : Array Value := #[a0, a1, a2, b0, b1, b2, c0, c1, c2, d]
def Ten (w : World) (b : Nat) (a0 a1 a2 b0 b1 b2 c0 c1 c2 d : Value) : Prop := RB w b 35 #[a0, a1, a2, b0, b1, b2, c0, c1, c2, d]
theorem Ten.cells {w : World} {b : Nat} {a0 a1 a2 b0 b1 b2 c0 c1 c2 d : Value} (h : Ten w b a0 a1 a2 b0 b1 b2 c0 c1 c2 d) :
    (w.cell? ⟨b, 0, none⟩ = some a0 ∧ w.cell? ⟨b, 1, none⟩ = some a1 ∧ w.cell? ⟨b, 2, none⟩ = some a2) ∧ (w.cell? ⟨b, 3, none⟩ = some b0 ∧ w.cell? ⟨b, 4, none⟩ = some b1 ∧ w.cell? ⟨b, 5, none⟩ = some b2) ∧ (w.cell? ⟨b, 6, none⟩ = some c0 ∧ w.cell? ⟨b, 7, none⟩ = some c1 ∧ w.cell? ⟨b, 8, none⟩ = some c2) ∧ w.cell? ⟨b, 9, none⟩ = some d :=
  ⟨⟨h.cell 0 _ rfl, h.cell 1 _ rfl, h.cell 2 _ rfl⟩, ⟨h.cell 3 _ rfl, h.cell 4 _ rfl, h.cell 5 _ rfl⟩, ⟨h.cell 6 _ rfl, h.cell 7 _ rfl, h.cell 8 _ rfl⟩, h.cell 9 _ rfl⟩
theorem Ten.free {w : World} {b : Nat} {a0 a1 a2 b0 b1 b2 c0 c1 c2 d : Value} (h : Ten w b a0 a1 a2 b0 b1 b2 c0 c1 c2 d) :
    (w.frozen? ⟨b, 0, none⟩ = false ∧ w.frozen? ⟨b, 1, none⟩ = false ∧ w.frozen? ⟨b, 2, none⟩ = false) ∧ (w.frozen? ⟨b, 3, none⟩ = false ∧ w.frozen? ⟨b, 4, none⟩ = false ∧ w.frozen? ⟨b, 5, none⟩ = false) ∧ (w.frozen? ⟨b, 6, none⟩ = false ∧ w.frozen? ⟨b, 7, none⟩ = false ∧ w.frozen? ⟨b, 8, none⟩ = false) ∧ w.frozen? ⟨b, 9, none⟩ = false :=
  ⟨⟨RB.free h 0, RB.free h 1, RB.free h 2⟩, ⟨RB.free h 3, RB.free h 4, RB.free h 5⟩, ⟨RB.free h 6, RB.free h 7, RB.free h 8⟩, RB.free h 9⟩
theorem Ten.put {w : World} {b : Nat} {a0 a1 a2 b0 b1 b2 c0 c1 c2 d : Value} (h : Ten w b a0 a1 a2 b0 b1 b2 c0 c1 c2 d) (x0 x1 x2 y0 y1 y2 z0 z1 z2 u : Value) :
    Ten ((((((((((w.setCell ⟨b, 0, none⟩ x0).setCell ⟨b, 1, none⟩ x1).setCell ⟨b, 2, none⟩ x2).setCell ⟨b, 3, none⟩ y0).setCell ⟨b, 4, none⟩ y1).setCell ⟨b, 5, none⟩ y2).setCell ⟨b, 6, none⟩ z0).setCell ⟨b, 7, none⟩ z1).setCell ⟨b, 8, none⟩ z2).setCell ⟨b, 9, none⟩ u) b x0 x1 x2 y0 y1 y2 z0 z1 z2 u := by
  have h0 := fset1 (o := 0) (v := x0) (c' := #[x0, a1, a2, b0, b1, b2, c0, c1, c2, d]) h (by simp [Array.setIfInBounds])
  have h1 := fset1 (o := 1) (v := x1) (c' := #[x0, x1, a2, b0, b1, b2, c0, c1, c2, d]) h0 (by simp [Array.setIfInBounds])
  have h2 := fset1 (o := 2) (v := x2) (c' := #[x0, x1, x2, b0, b1, b2, c0, c1, c2, d]) h1 (by simp [Array.setIfInBounds])
  have h3 := fset1 (o := 3) (v := y0) (c' := #[x0, x1, x2, y0, b1, b2, c0, c1, c2, d]) h2 (by simp [Array.setIfInBounds])
  have h4 := fset1 (o := 4) (v := y1) (c' := #[x0, x1, x2, y0, y1, b2, c0, c1, c2, d]) h3 (by simp [Array.setIfInBounds])
  have h5 := fset1 (o := 5) (v := y2) (c' := #[x0, x1, x2, y0, y1, y2, c0, c1, c2, d]) h4 (by simp [Array.setIfInBounds])
  have h6 := fset1 (o := 6) (v := z0) (c' := #[x0, x1, x2, y0, y1, y2, z0, c1, c2, d]) h5 (by simp [Array.setIfInBounds])
  have h7 := fset1 (o := 7) (v := z1) (c' := #[x0, x1, x2, y0, y1, y2, z0, z1, c2, d]) h6 (by simp [Array.setIfInBounds])
  have h8 := fset1 (o := 8) (v := z2) (c' := #[x0, x1, x2, y0, y1, y2, z0, z1, z2, d]) h7 (by simp [Array.setIfInBounds])
  have h9 := fset1 (o := 9) (v := u) (c' := #[x0, x1, x2, y0, y1, y2, z0, z1, z2, u]) h8 (by simp [Array.setIfInBounds])
  exact h9
theorem set10_below {B : Nat} {w w' : World} {b : Nat} {x0 x1 x2 y0 y1 y2 z0 z1 z2 u : Value} (h : Below B w w') (hb : B ≤ b) : Below B w ((((((((((w'.setCell ⟨b, 0, none⟩ x0).setCell ⟨b, 1, none⟩ x1).setCell ⟨b, 2, none⟩ x2).setCell ⟨b, 3, none⟩ y0).setCell ⟨b, 4, none⟩ y1).setCell ⟨b, 5, none⟩ y2).setCell ⟨b, 6, none⟩ z0).setCell ⟨b, 7, none⟩ z1).setCell ⟨b, 8, none⟩ z2).setCell ⟨b, 9, none⟩ u) :=
  (fset3_below h hb).setCell (p := ⟨b, 3, none⟩) hb y0 |>.setCell (p := ⟨b, 4, none⟩) hb y1 |>.setCell (p := ⟨b, 5, none⟩) hb y2 |>.setCell (p := ⟨b, 6, none⟩) hb z0 |>.setCell (p := ⟨b, 7, none⟩) hb z1 |>.setCell (p := ⟨b, 8, none⟩) hb z2 |>.setCell (p := ⟨b, 9, none⟩) hb u

namespace Ie
theorem dec_fin2 (x : Int) (h0 : 0 < x) (h1 : x < 9218868437227405312) : dm x = man x ∧ de x = (ex x : Int) - 1074 := by
  have hf : fld x = x / 4503599627370496 := by simp only [fld]; omega
  by_cases hs : x < 4503599627370496
  · have c : cls x = 1 := by
      rw [cls, hf, if_pos (by omega), if_neg (by omega)]
    constructor
    · rw [dm, c, if_neg (by omega), if_pos (by omega), man, if_pos hs]; omega
    · rw [de, c, if_neg (by omega), if_pos rfl, ex]; omega
  · have c : cls x = 2 := by
      rw [cls, hf, if_neg (by omega), if_neg (by omega)]
    constructor
    · rw [dm, c, if_pos rfl, man, if_neg hs]
    · rw [de, c, if_pos rfl, ex, hf]; omega
end Ie
theorem Sh.zB0 : (1 : Int) * 2 ^ ((-1075 : Int) + 1075).toNat * Sh.T5 = Sh.B 0 := by rw [Sh.B, Ie.md_zero]; rfl
theorem Sh.zB {a : Int} : (2 * Ie.man a + 1) * 2 ^ ((Ie.ex a : Int) - 1074 - 1 + 1075).toNat * Sh.T5 = Sh.B a := by
  rw [Sh.B, Ie.md, show ((Ie.ex a : Int) - 1074 - 1 + 1075).toNat = Ie.ex a by omega]
theorem Sh.zV {a : Int} : Ie.man a * 2 ^ ((Ie.ex a : Int) - 1074 + 1075).toNat * Sh.T5 = Sh.V a := by
  rw [Sh.V, Ie.vl, show ((Ie.ex a : Int) - 1074 + 1075).toNat = Ie.ex a + 1 by omega, Int.pow_succ]
  generalize (2 : Int) ^ Ie.ex a = y
  generalize Sh.T5 = z
  congr 1
  rw [Int.mul_comm y 2, ← Int.mul_assoc, Int.mul_comm (Ie.man a) 2]
theorem Sh.ex_le {a : Int} (h : a < 9218868437227405312) : (Ie.ex a : Int) ≤ 2045 := by unfold Ie.ex; omega
theorem Sh.cls0 : Ie.cls 0 = 0 ∧ Ie.dm 0 = 0 ∧ Ie.de 0 = 0 := by decide
theorem Sh.clsP {a : Int} (h0 : 0 < a) (h1 : a < 9218868437227405312) : (Ie.cls a == 0) = false ∧ (Ie.cls a != 0) = true := by
  have : Ie.cls a ≠ 0 := by
    unfold Ie.cls Ie.fld
    split
    · split
      · omega
      · omega
    · split
      · split <;> omega
      · omega
  simp [this]

set_option maxRecDepth 100000 in
set_option maxHeartbeats 4000000 in
theorem zhalfway_any (a : Int) (w : World) (h0 : 0 ≤ a) (h1 : a < 9218868437227405312) :
    Calls Tryz.prog 30 #[.int .u64 a] w fun r w' => ∃ v, r = .returned v ∧ DecIs v (Sh.dd (Sh.B a)) ∧ Below w.heap.size w w' := by
  have D := hid (fun wx : World => decode_any a wx h0 (by omega))
  have Z := FR3.new w (.bool false) (.string ⟨#[]⟩) (.int .i64 0)
  have ZB := hid (alloc_b w (.cells #[.bool false, .string ⟨#[]⟩, .int .i64 0] 29))
  have HZ : Hid (FR3 (w.alloc (.cells #[.bool false, .string ⟨#[]⟩, .int .i64 0] 29)) w.heap.size (.bool false) (.string ⟨#[]⟩) (.int .i64 0) ∧ w.heap.size < (w.alloc (.cells #[.bool false, .string ⟨#[]⟩, .int .i64 0] 29)).heap.size) := ⟨Z, Z.lt⟩
  simp only [partsOf] at D
  clear Z
  rcases (show a = 0 ∨ 0 < a by omega) with ha | ha
  · subst ha
    have EX := hid (fun wx : World => zexact_any 1 (-1075) wx (by omega) (by omega) (by omega) (by omega))
    rw [Sh.zB0] at EX
    obtain ⟨k1, k2, k3⟩ := Sh.cls0
    rw [k1, k2, k3] at D
    clear k1 k2 k3 h0 h1
    generalize Sh.dd (Sh.B 0) = DD at *
    generalize decide (9223372036854775808 ≤ (0 : Int)) = neg at *
    go_enter Tryz.func30, Tryz.ntmps30
    go_wp2_with fail
    refine (D.out _).mono ?_
    rintro e w1 ⟨rfl, B1⟩
    have HB1 := hid B1
    clear B1 D
    go_wp2_with fail
    refine (EX.out _).mono ?_
    rintro e w2 ⟨v, rfl, ⟨t, hv, ht⟩, B2⟩
    unfold decV at hv
    subst hv
    have HB6 := hid (HB1.out.trans (((alloc_b w1 _).trans (B2.mono (alloc_b w1 _).size)).mono HB1.out.size))
    have R6 := hid (HZ.out.1.below HB6.out HZ.out.2)
    obtain ⟨⟨c0, c1, c2⟩, f0, f1, f2⟩ := R6.out.cells
    have G6 : Hid (∃ v, Ending.returned (.agg #[.bool DD.neg, .string t, .int .i64 DD.e]) = .returned v ∧ DecIs v DD) := ⟨_, rfl, t, rfl, ht⟩
    clear B2 EX ht HB1
    go_wp2_with fail
    (try simp only [Exit.inBlock, Exit.then])
    refine bodyPost_ret (results_cell_row rfl _ _ w.heap.size 29 _ (0, 0) _ rfl (R6.out.put _ _ _) Tryz.underlying29 rfl (by kernel_rfl)) rfl ?_
    obtain ⟨v, h1, h2⟩ := G6.out
    exact ⟨v, h1, h2, fset3_below (ZB.out.trans (HB6.out.mono ZB.out.size)) (Nat.le_refl _)⟩
  · obtain ⟨k2, k3⟩ := Ie.dec_fin2 a ha h1
    obtain ⟨k4, k5⟩ := Sh.clsP ha h1
    have xb := Sh.ex_le h1
    have mb := Ie.man_nn a h0
    rw [k2, k3] at D
    have EX := hid (fun wx : World => zexact_any (2 * Ie.man a + 1) ((Ie.ex a : Int) - 1074 - 1) wx (by omega) (by omega) (by omega) (by omega))
    rw [Sh.zB] at EX
    have xb0 : (0 : Int) ≤ (Ie.ex a : Int) := by omega
    clear k2 k3 h0 h1 ha
    generalize Sh.dd (Sh.B a) = DD at *
    generalize decide (9223372036854775808 ≤ a) = neg at *
    generalize Ie.cls a = c at *
    generalize Ie.man a = m at *
    generalize (Ie.ex a : Int) = x at *
    go_enter Tryz.func30, Tryz.ntmps30
    go_wp2_with fail
    refine (D.out _).mono ?_
    rintro e w1 ⟨rfl, B1⟩
    have HB1 := hid B1
    clear B1 D
    go_wp2_with fail
    refine (EX.out _).mono ?_
    rintro e w2 ⟨v, rfl, ⟨t, hv, ht⟩, B2⟩
    unfold decV at hv
    subst hv
    have HB6 := hid (HB1.out.trans (((alloc_b w1 _).trans (B2.mono (alloc_b w1 _).size)).mono HB1.out.size))
    have R6 := hid (HZ.out.1.below HB6.out HZ.out.2)
    obtain ⟨⟨c0, c1, c2⟩, f0, f1, f2⟩ := R6.out.cells
    have G6 : Hid (∃ v, Ending.returned (.agg #[.bool DD.neg, .string t, .int .i64 DD.e]) = .returned v ∧ DecIs v DD) := ⟨_, rfl, t, rfl, ht⟩
    clear B2 EX ht HB1
    go_wp2_with fail
    (try simp only [Exit.inBlock, Exit.then])
    refine bodyPost_ret (results_cell_row rfl _ _ w.heap.size 29 _ (0, 0) _ rfl (R6.out.put _ _ _) Tryz.underlying29 rfl (by kernel_rfl)) rfl ?_
    obtain ⟨v, h1, h2⟩ := G6.out
    exact ⟨v, h1, h2, fset3_below (ZB.out.trans (HB6.out.mono ZB.out.size)) (Nat.le_refl _)⟩
end Go.Proofs.YtggikfcdecnooaaGreatDoor

/-
  A state as one predicate: what it says of the memory, and that only new memory was written.
-/
namespace Go.Proofs.YtggikfcdecnooaaGreatDoor
open Go Go.RowKit Go.Deep

structure St (S : World → Prop) (w wx : World) : Prop where
  cells : S wx
  bel : Below w.heap.size w wx

def Stays (S : World → Prop) : Prop := ∀ wx w' : World, S wx → Below wx.heap.size wx w' → S w'

theorem St.on {S : World → Prop} {w wx w' : World} (h : St S w wx) (k : Stays S) (hB : Below wx.heap.size wx w') : St S w w' := ⟨k _ _ h.cells hB, h.bel.trans (hB.mono h.bel.size)⟩
theorem St.drew {S : World → Prop} {w wx : World} (h : St S w wx) (k : Stays S) : St S w wx.drew := h.on k ⟨rfl, rfl, rfl, Nat.le_refl _, fun _ _ => rfl⟩
theorem St.more {S T : World → Prop} {w wx w' : World} (h : St S w wx) (k : Stays S) (hB : Below wx.heap.size wx w') (t : T w') : St (fun x => S x ∧ T x) w w' := ⟨⟨k _ _ h.cells hB, t⟩, h.bel.trans (hB.mono h.bel.size)⟩
theorem St.imp {S T : World → Prop} {w wx : World} (h : St S w wx) (k : ∀ x, S x → T x) : St T w wx := ⟨k _ h.cells, h.bel⟩
theorem St.to {S T : World → Prop} {w wx w' : World} (h : St S w wx) (hB : Below wx.heap.size wx w') (t : T w') : St T w w' := ⟨t, h.bel.trans (hB.mono h.bel.size)⟩

theorem Stays.cell (a : Addr) (v : Value) : Stays (fun w => w.cell? a = some v) := fun _ _ h hB => (hB.cell (cell_lt h)).trans h
theorem Stays.and {S T : World → Prop} (h : Stays S) (k : Stays T) : Stays (fun w => S w ∧ T w) := fun _ _ g hB => ⟨h _ _ g.1 hB, k _ _ g.2 hB⟩
theorem Stays.ans (B : Nat) (p : Option Addr) (os : List Int) (v : Int) : Stays (fun w => Ans B w p os v) := fun _ _ h hB => h.below hB (Nat.le_refl _)
theorem Stays.arg (p : Option Addr) (n cap : Nat) (os : List Int) : Stays (fun w => Arg w p n cap os) := fun _ _ h hB => h.below hB (Nat.le_refl _)
theorem Stays.tab : Stays Tab := fun _ _ h hB => h.below hB
theorem Stays.bel (w : World) : Stays (fun x => Below w.heap.size w x) := fun _ _ h hB => h.trans (hB.mono h.size)
theorem Stays.const (p : Prop) : Stays (fun _ => p) := fun _ _ h _ => h

/-- The state under a name of its own. -/
theorem state (S : World → Prop) (w : World) (k : Stays S) : ∃ SS : World → Prop, Hid (∀ wx w' : World, SS wx → Below wx.heap.size wx w' → SS w') ∧ Hid (∀ wx : World, SS wx → S wx) ∧ Hid (∀ wx : World, SS wx → Below w.heap.size w wx) ∧ Hid (∀ wx : World, S wx → Below w.heap.size w wx → SS wx) :=
  ⟨St S w, fun _ _ h hB => h.on k hB, fun _ h => h.cells, fun _ h => h.bel, fun _ h b => ⟨h, b⟩⟩

theorem drew_nil (w : World) : Below w.heap.size w w.drew := ⟨rfl, rfl, rfl, Nat.le_refl _, fun _ _ => rfl⟩
end Go.Proofs.YtggikfcdecnooaaGreatDoor
