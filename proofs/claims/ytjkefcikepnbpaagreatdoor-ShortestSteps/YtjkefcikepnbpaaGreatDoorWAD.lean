/-
  Texts put together: Walk4, NBTrim, VTrimR, VDec, MSt.
-/
import Derived.Test.YtjkefcikepnbpaaGreatDoorWAA
import Derived.Laws.ResultCell
namespace Go.Proofs.YtjkefcikepnbpaaGreatDoor
open Go.RowKit Go.Deep

/-- Behind j limbs of a: the block holds the product of these and b. -/
def ProdInv (g k : Nat) (w : World) (ls bs : List Int) (j : Nat) (os : List Int) (wr : World) : Prop :=
  Own wr g os ∧ os.length = k ∧ Nm.Limbs os ∧ Nm.val os = Nm.val (ls.take j) * Nm.val bs ∧ Below g w wr

theorem ProdInv.step {g k : Nat} {w : World} {ls bs : List Int} {j : Nat} {os : List Int} {wr w' : World} {n : Nat} (hn : bs.length = n) (ha : Nm.Limbs ls) (hb : Nm.Limbs bs) (h : ProdInv g k w ls bs j os wr) (hj : j < ls.length) (hk : j + n < k) {c x : Int} {us : List Int}
    (hx : x = ls.getD j 0) (hm : MulInv g k (j + n) wr os (Nm.val os + Nm.pw j * (Nm.val bs * x)) (j + n) c us w') :
    ProdInv g k w ls bs (j + 1) (us.set (j + n) c) (w'.setCell ⟨g, j + n, none⟩ (.int .u64 c)) := by
  subst hn
  obtain ⟨h1, h2, h3, h4, h5⟩ := h
  obtain ⟨⟨m1, m2, m3, m4, m5, m6⟩, m7, m8⟩ := hm
  have hv : Nm.val os < Nm.pw (j + bs.length) := by
    rw [h4, Nm.pw_add]
    have e1 := Nm.val_bd _ (ha.take j)
    rw [List.length_take, Nat.min_eq_left (by omega)] at e1
    have e2 := Nm.val_bd _ hb
    have e3 : Nm.val (ls.take j) * Nm.val bs ≤ Nm.pw j * Nm.val bs := Int.mul_le_mul_of_nonneg_right (by omega) e2.1
    have e4 : Nm.pw j * (Nm.val bs + 1) ≤ Nm.pw j * Nm.pw bs.length := Int.mul_le_mul_of_nonneg_left (by omega) (by have := Nm.pw_pos j; omega)
    have e5 := Nm.pw_pos j
    rw [Int.mul_add, Int.mul_one] at e4
    omega
  have h0 : us.getD (j + bs.length) 0 = 0 := by rw [m8 _ (Nat.le_refl _)]; exact Nm.zero_of_lt h3 hv _ (Nat.le_refl _)
  refine ⟨m1.set _ _, by simpa using m2, m3.set _ m7.1 m7.2, ?_, h5.trans (m5.setCell (Nat.le_refl _) _)⟩
  rw [Nm.val_set _ _ _ (by omega), h0, Int.sub_zero, m4, h4, hx, Nm.val_take_succ ls j hj, Int.add_mul, Int.mul_assoc, Int.mul_comm (ls.getD j 0)]

theorem prod_bound {zs ys : List Int} (hz : Nm.Limbs zs) (hy : Nm.Limbs ys) (h : Nm.val zs * Nm.val ys < Nm.pw 4096) (h1 : 0 < Nm.tsize zs) (h2 : 0 < Nm.tsize ys) : Nm.tsize zs + Nm.tsize ys ≤ 4097 := by
  have e1 := Nm.val_ge_top hz h1
  have e2 := Nm.val_ge_top hy h2
  have e3 : Nm.pw (Nm.tsize zs - 1) * Nm.pw (Nm.tsize ys - 1) ≤ Nm.val zs * Nm.val ys := Int.mul_le_mul e1 e2 (Int.le_of_lt (Nm.pw_pos _)) (by have := (Nm.val_bd zs hz).1; omega)
  rw [← Nm.pw_add] at e3
  rcases Nat.lt_or_ge (Nm.tsize zs - 1 + (Nm.tsize ys - 1)) 4096 with e | e
  · omega
  · have := Nm.pw_mono e
    omega

set_option maxRecDepth 100000 in
set_option maxHeartbeats 1000000 in
theorem mul_ok (p q : Option Addr) (n cap m cap' : Nat) (zs ys : List Int) (w : World) (ha : Arg w p n cap zs) (hb : Arg w q m cap' ys) (tz : Nm.tsize zs ≤ 4096) (ty : Nm.tsize ys ≤ 4096) (hs : Nm.val zs * Nm.val ys < Nm.pw 4096) :
    Calls Tryz.prog 65 #[.slice p n cap, .slice q m cap'] w fun e w' => ∃ r os, e = .returned (.tuple #[.slice r (List.length os) (List.length os), .int .i64 0]) ∧ Ans w.heap.size w' r os (Nm.val zs * Nm.val ys) ∧ Below w.heap.size w w' := by
  obtain ⟨a1, a2, a3, a4, a5⟩ := ha
  obtain ⟨b1, b2, b3, b4, b5⟩ := hb
  have HS : Hid (Nm.val zs * Nm.val ys < Nm.pw 4096) := hs
  clear hs
  have nil : Nm.val zs * Nm.val ys = 0 → Ans w.heap.size w none [] (Nm.val zs * Nm.val ys) := fun h => ⟨Lies.nil _ _, Nm.Limbs.nil, rfl, by simp [Nm.val, h], fun a h => by cases h⟩
  by_cases h1 : Nm.tsize zs = 0
  · have h1' : ((Nm.tsize zs : Int) == 0) = true := by simp [h1]
    have NIL := hid (nil (by rw [(Nm.tsize_zero_iff a5).1 h1, Int.zero_mul]))
    clear nil h1
    go_enter Tryz.func65, Tryz.ntmps65
    go_wp2_with fail
    refine (pair_ok p q n cap m cap' zs ys _ a1 a2 (by omega) a4 tz b1 b2 (by omega) b4 ty).mono ?_
    rintro e w' ⟨rfl, rfl⟩
    go_wp2_with fail
    go_ret2
    exact ⟨none, [], rfl, NIL.out, Below.refl _ _⟩
  have h1' : ((Nm.tsize zs : Int) == 0) = false := by simp [h1]
  by_cases h2 : Nm.tsize ys = 0
  · have h2' : ((Nm.tsize ys : Int) == 0) = true := by simp [h2]
    have NIL := hid (nil (by rw [(Nm.tsize_zero_iff b5).1 h2, Int.mul_zero]))
    clear nil h1 h2
    go_enter Tryz.func65, Tryz.ntmps65
    go_wp2_with fail
    refine (pair_ok p q n cap m cap' zs ys _ a1 a2 (by omega) a4 tz b1 b2 (by omega) b4 ty).mono ?_
    rintro e w' ⟨rfl, rfl⟩
    go_wp2_with fail
    go_ret2
    exact ⟨none, [], rfl, NIL.out, Below.refl _ _⟩
  have h2' : ((Nm.tsize ys : Int) == 0) = false := by simp [h2]
  clear nil
  have hsum := prod_bound a5 b5 HS.out (by omega) (by omega)
  have hsum' : (Nm.tsize zs : Int) + (Nm.tsize ys : Int) ≤ 4097 := by omega
  have hmk := make64 (Nm.tsize zs + Nm.tsize ys) (by omega) w
  have em : ((Nm.tsize zs + Nm.tsize ys : Nat) : Int) = (Nm.tsize zs : Int) + (Nm.tsize ys : Int) := by omega
  rw [em] at hmk
  clear em
  have ho : Own (w.alloc (.cells (madeCells #[.int .u64 0] (Nm.tsize zs + Nm.tsize ys)) 22)) w.heap.size (List.replicate (Nm.tsize zs + Nm.tsize ys) 0) := by
    rw [made_zero]; exact Own.alloc w _
  have hb0 : Below w.heap.size w (w.alloc (.cells (madeCells #[.int .u64 0] (Nm.tsize zs + Nm.tsize ys)) 22)) := (Below.refl _ _).alloc (Nat.le_refl _) _
  have I0 : ProdInv w.heap.size (Nm.tsize zs + Nm.tsize ys) w (Nm.trim zs) (Nm.trim ys) 0 (List.replicate (Nm.tsize zs + Nm.tsize ys) 0) (w.alloc (.cells (madeCells #[.int .u64 0] (Nm.tsize zs + Nm.tsize ys)) 22)) :=
    ⟨ho, by simp, Nm.Limbs.replicate _, by simp [Nm.val_replicate, Nm.val], hb0⟩
  clear ho hb0
  have hsum2 : decide (4096 < (Nm.tsize zs : Int) + (Nm.tsize ys : Int) - 1) = false := by simp; omega
  have A4 := hid a4.trim
  have B4 := hid b4.trim
  obtain ⟨b, off, rfl, hcell⟩ : ∃ b off, p = some ⟨b, off, none⟩ ∧ Hid (∀ i, i < Nm.tsize zs → w.cell? ⟨b, off + i, none⟩ = some (.int .u64 ((Nm.trim zs).getD i 0))) := by
    have hlen := Nm.trim_length zs
    rcases A4.out with h | ⟨b, off, hp, h⟩
    · exfalso
      rw [h] at hlen
      simp at hlen
      omega
    · exact ⟨b, off, hp, fun i hi => h i (by rw [hlen]; exact hi)⟩
  have hbg : b < w.heap.size := cell_lt (hcell.out 0 (by omega))
  have A5 := hid a5.trim
  have B5 := hid b5.trim
  go_enter Tryz.func65, Tryz.ntmps65
  go_wp2_with fail
  refine (pair_ok (some ⟨b, off, none⟩) q n cap m cap' zs ys _ a1 a2 (by omega) a4 tz b1 b2 (by omega) b4 ty).mono ?_
  rintro e w' ⟨rfl, rfl⟩
  clear a4 b4
  go_wp2_with fail
  go_loopw [43] (fun i wr => ∃ (j : Nat) (os : List Int), j ≤ Nm.tsize zs ∧ i = .int .i64 j ∧ ProdInv w'.heap.size (Nm.tsize zs + Nm.tsize ys) w' (Nm.trim zs) (Nm.trim ys) j os wr) (fun i _ => Nm.tsize zs - (intOf i).toNat)
  case atStart => exact ⟨0, _, Nat.zero_le _, rfl, I0⟩
  case round =>
    clear I0 hmk
    obtain ⟨j, os, hj, rfl, I⟩ := hrel
    by_cases hlt : j < Nm.tsize zs
    · obtain ⟨x, hx, X⟩ : ∃ x, wr.cell? ⟨b, off + j, none⟩ = some (.int .u64 x) ∧ Hid (x = (Nm.trim zs).getD j 0) := ⟨_, (I.2.2.2.2.cell (p := ⟨b, off + j, none⟩) hbg).trans (hcell.out j hlt), rfl⟩
      have hx0 := A5.out.at j
      rw [show (Nm.trim zs).getD j 0 = x from X.out.symm] at hx0
      obtain ⟨hx0, hx1⟩ := hx0
      go_wp2_with fail
      refine (addTimes_any w'.heap.size (Nm.tsize zs + Nm.tsize ys) j (Nm.tsize ys) _ os q _ (Nm.trim ys) x _ I.2.1 (by omega) I.1 I.2.2.1 (Nm.trim_length ys) (by omega) (B4.out.below I.2.2.2.2 (Nat.le_refl _)) B5.out (fun h0 => B4.out.lt h0) hx0 hx1).mono ?_
      rintro e w2 ⟨c, us, rfl, M⟩
      have I2 := I.step (Nm.trim_length ys) A5.out B5.out (by rw [Nm.trim_length]; exact hlt) (by omega) X.out M
      obtain ⟨y, hy⟩ : ∃ y, w2.cell? ⟨w'.heap.size, j + Nm.tsize ys, none⟩ = some (.int .u64 y) := ⟨_, M.1.1.cell _ (by have := M.1.2.1; omega)⟩
      have hfr := M.1.1.free (j + Nm.tsize ys)
      clear M
      go_wp2
      go_roundw
      case rel => exact ⟨j + 1, _, by omega, by go_num, I2⟩
      case measure => simp [intOf]; omega
    · have hjn : j = Nm.tsize zs := by omega
      subst hjn
      have E := I.2.2.2.1
      rw [List.take_of_length_le (by rw [Nm.trim_length]; omega), Nm.val_trim, Nm.val_trim] at E
      have EE := hid E
      clear E
      go_wp2_with fail
      refine (limited_own w'.heap.size (Nm.tsize zs + Nm.tsize ys) os _ I.2.1 (by omega) I.1 I.2.2.1 w'.heap.size (Nat.le_refl _) (by rw [EE.out]; exact HS.out)).mono ?_
      rintro e w3 ⟨r, xs, rfl, hans, rfl⟩
      rw [EE.out] at hans
      have HA := hid hans
      clear hans
      have HB := hid I.2.2.2.2
      clear I
      go_wp2_with fail
      go_ret2
      exact ⟨r, xs, rfl, HA.out, HB.out⟩
end Go.Proofs.YtjkefcikepnbpaaGreatDoor

namespace Go.Proofs.YtjkefcikepnbpaaGreatDoor
open Go.RowKit Go.Deep

/-- j zeros stand at the head, and then another digit. -/
structure Lead (ds : List Int) (j : Nat) : Prop where
  zero : ∀ i, i < j → ds.getD i 0 = 0
  next : ds.getD j 0 ≠ 0

theorem Lead.strip : ∀ {ds : List Int} {j : Nat}, Lead ds j → Dn.strip ds = ds.drop j
  | [], j, h => absurd (by simp) h.next
  | d :: ds, 0, h => by
    have := h.next
    simp at this
    simp [Dn.strip, this]
  | d :: ds, j + 1, h => by
    have h0 := h.zero 0 (by omega)
    simp at h0
    subst h0
    have ih : Lead ds j := ⟨fun i hi => by have := h.zero (i + 1) (by omega); simpa using this, by have := h.next; simpa using this⟩
    have := Lead.strip ih
    simp only [Dn.strip, List.dropWhile_cons, decide_true, if_true, List.drop_succ_cons] at this ⊢
    exact this

theorem Lead.lt {ds : List Int} {j : Nat} (h : Lead ds j) : j < ds.length := by
  rcases Nat.lt_or_ge j ds.length with c | c
  · exact c
  · exact absurd (by simp [List.getD, List.getElem?_eq_none c]) h.next

theorem Lead.ex : ∀ {ds : List Int}, Dn.strip ds ≠ [] → ∃ j, Lead ds j
  | [], h => absurd rfl h
  | d :: ds, h => by
    by_cases c : d = 0
    · subst c
      have : Dn.strip ds ≠ [] := by simpa [Dn.strip] using h
      obtain ⟨j, hj⟩ := Lead.ex this
      refine ⟨j + 1, fun i hi => ?_, by simpa using hj.next⟩
      cases i with
      | zero => simp
      | succ i => simpa using hj.zero i (by omega)
    · exact ⟨0, fun i hi => by omega, by simpa using c⟩

set_option maxRecDepth 100000 in
set_option maxHeartbeats 1000000 in
theorem btrim1_any (g n J : Nat) (ds : List Int) (w : World) (hd : OwnB w g ds) (hn : ds.length = n) (hJ : Lead ds J) :
    Calls Tryz.prog 152 #[.slice (some ⟨g, 0, none⟩) n n, .int .u8 0] w fun e w' => e = .returned (.slice (some ⟨g, J, none⟩) (n - J) (n - J)) ∧ w' = w := by
  have HJ := hid hJ
  have HL : Hid (J < n) := by show _ < _; have := hJ.lt; omega
  have HO := hid hd
  have HN := hid hn
  clear hd hn hJ
  go_enter Tryz.func152, Tryz.ntmps152
  go_wp2_with fail
  go_loop [0] (fun s => ∃ j m : Nat, s = .slice (some ⟨g, j, none⟩) m m ∧ j ≤ J ∧ Hid (j + m = n)) (fun s => match s with | .slice _ m _ => m | _ => 0)
  case atStart => exact ⟨0, n, rfl, Nat.zero_le _, by show _ = _; omega⟩
  case round =>
    obtain ⟨j, m, rfl, hj, E⟩ := hrel
    have hm : 0 < m := by have := E.out; have := HL.out; omega
    have hmi : (0 : Int) < (m : Int) := by omega
    have hmz : ((m : Int) == 0) = false := by rw [beq_eq_false_iff_ne]; omega
    have hm1 : 1 ≤ m := by omega
    obtain ⟨x, hx, X⟩ : ∃ x, w.cell? ⟨g, j, none⟩ = some (.int .u8 x) ∧ Hid (x = ds.getD j 0) := ⟨_, HO.out.cell j (by have := E.out; have := HN.out; omega), rfl⟩
    by_cases hlt : j < J
    · have hx0 : x = 0 := by rw [X.out]; exact HJ.out.zero j hlt
      subst hx0
      go_wp2_with fail
      go_round
      case rel => exact ⟨j + 1, m - 1, by rw [if_neg (by have := E.out; have := HL.out; omega)], by omega, by show _ = _; have := E.out; omega⟩
      case measure => simp; omega
    · obtain rfl : j = J := by omega
      have hx0 : (x == 0) = false := by rw [beq_eq_false_iff_ne, X.out]; exact HJ.out.next
      obtain rfl : m = n - j := by have := E.out; omega
      go_wp2_with fail
      go_ret
      exact ⟨rfl, rfl⟩

set_option maxRecDepth 100000 in
theorem btrim_any (g n J : Nat) (ds : List Int) (w : World) (hd : OwnB w g ds) (hn : ds.length = n) (hJ : Lead ds J) :
    Calls Tryz.prog 138 #[.slice (some ⟨g, 0, none⟩) n n, .string ⟨#[0]⟩] w fun e w' => e = .returned (.slice (some ⟨g, J, none⟩) (n - J) (n - J)) ∧ w' = w := by
  have T := hid (btrim1_any g n J ds w hd hn hJ)
  have hz : ((n : Int) == 0) = false := by rw [beq_eq_false_iff_ne]; have := hJ.lt; omega
  clear hd hn hJ
  go_enter Tryz.func138, Tryz.ntmps138
  go_wp2_with fail
  refine T.out.mono ?_
  rintro e w' ⟨rfl, rfl⟩
  go_wp2_with fail
  go_ret
  exact ⟨rfl, rfl⟩
end Go.Proofs.YtjkefcikepnbpaaGreatDoor

namespace Go.Proofs.YtjkefcikepnbpaaGreatDoor
open Go.RowKit Go.Deep

/-- s' is s without some zeros at its end, and ends with none. -/
def VTail (xs : List Int) (e : Ending) : Prop := ∃ s' k, e = .returned (.string s') ∧ Str s' (xs.take k) ∧ k ≤ xs.length ∧ (∀ i, k ≤ i → i < xs.length → xs.getD i 0 = 48) ∧ (0 < k → xs.getD (k - 1) 0 ≠ 48)

set_option maxRecDepth 100000 in
set_option maxHeartbeats 1000000 in
theorem vrtrim_any (s : ByteArray) (xs : List Int) (w : World) (hs : Str s xs) (hn1 : xs.length ≤ 562949953421312) :
    Calls Tryz.prog 80 #[.string s, .int .u8 48] w fun e w' => VTail xs e ∧ w' = w := by
  have HS := hid hs
  have HN := hid hn1
  clear hs hn1
  go_enter Tryz.func80, Tryz.ntmps80
  go_wp2_with fail
  go_loop [0] (fun c => ∃ s' m, c = .string s' ∧ Hid (Str s' (xs.take m) ∧ m ≤ xs.length ∧ s'.size = m ∧ (∀ i, m ≤ i → i < xs.length → xs.getD i 0 = 48))) (fun c => match c with | .string s' => s'.size | _ => 0)
  case atStart => exact ⟨s, xs.length, rfl, by rw [List.take_length]; exact HS.out, Nat.le_refl _, HS.out.size, fun i h1 h2 => by omega⟩
  case round =>
    obtain ⟨s', m, rfl, I⟩ := hrel
    have hsz : s'.size = m := I.out.2.2.1
    have hmb : (m : Int) ≤ 562949953421312 := by have := HN.out; have := I.out.2.1; omega
    by_cases h0 : m = 0
    · subst h0
      have F : Hid (VTail xs (.returned (.string s'))) := ⟨s', 0, rfl, I.out.1, Nat.zero_le _, I.out.2.2.2, fun h => by omega⟩
      clear I
      go_wp2_with fail
      go_ret
      exact ⟨F.out, rfl⟩
    · obtain ⟨u, hu⟩ : ∃ u, m = u + 1 := ⟨m - 1, by omega⟩
      have hmi : (0 : Int) < (m : Int) := by omega
      have hmu : (m : Int) - 1 = (u : Int) := by omega
      have hum : (u : Int) < (m : Int) := by omega
      obtain ⟨x, X⟩ : ∃ x, Hid (xs.getD u 0 = x) := ⟨_, rfl⟩
      have hx : ∀ h : u < s'.size, ((s'[u]'h).toNat : Int) = x := fun h => by
        rw [I.out.1.at u h, ← X.out]
        simp [List.getD, show u < m by omega]
      have HU := hid hu
      by_cases hd : x = 48
      · subst hd
        have F : Hid (Str (s'.extract 0 u) (xs.take u) ∧ u ≤ xs.length ∧ (s'.extract 0 u).size = u ∧ (∀ i, u ≤ i → i < xs.length → xs.getD i 0 = 48)) := by
          have e := I.out.1.extract 0 u
          rw [List.drop_zero, Nat.sub_zero, List.take_take, show min u m = u by omega] at e
          refine ⟨e, by have := I.out.2.1; omega, by rw [e.size]; have := I.out.2.1; simp; omega, fun i h1 h2 => ?_⟩
          by_cases c : i = u
          · subst c; exact X.out
          · exact I.out.2.2.2 i (by omega) h2
        have SZ : Hid ((s'.extract 0 u).size < s'.size) := by show _ < _; rw [F.out.2.2.1, hsz]; omega
        clear I hu h0
        go_wp2_with fail
        go_round
        case rel => exact ⟨_, _, rfl, F.out⟩
        case measure => exact SZ.out
      · have hd2 : (x == 48) = false := by rw [beq_eq_false_iff_ne]; exact hd
        have F : Hid (VTail xs (.returned (.string s'))) := ⟨s', m, rfl, I.out.1, I.out.2.1, I.out.2.2.2, fun _ => by rw [show m - 1 = u by omega, X.out]; exact hd⟩
        clear I hu h0
        go_wp2_with fail
        go_ret
        exact ⟨F.out, rfl⟩


set_option maxRecDepth 100000 in
theorem vrtrim0_any (s : ByteArray) (xs : List Int) (w : World) (hs : Str s xs) (hn1 : xs.length ≤ 562949953421312) :
    Calls Tryz.prog 60 #[.string s, .string ⟨#[48]⟩] w fun e w' => VTail xs e ∧ w' = w := by
  have T := hid (vrtrim_any s xs w hs hn1)
  by_cases h : xs = []
  · have F : Hid (VTail xs (.returned (.string s))) := ⟨s, 0, rfl, by rw [h] at hs ⊢; exact hs, Nat.zero_le _, fun i _ hi => by rw [h] at hi; simp at hi, fun hlt => by omega⟩
    have hs0 : s = ⟨#[]⟩ := hs.inj (by rw [h]; rfl)
    subst hs0
    clear hs hn1 h
    go_enter Tryz.func60, Tryz.ntmps60
    go_wp2_with fail
    go_ret
    exact ⟨F.out, rfl⟩
  · have e1 : s.toList ≠ [] := by
      intro c
      apply h
      rw [ByteArray.toList_eq] at c
      rw [← hs, c]
      rfl
    have e2 : (s.toList == []) = false := by rw [beq_eq_false_iff_ne]; exact e1
    have e3 : s.toList.isEmpty = false := by rw [List.isEmpty_eq_false_iff]; exact e1
    clear hs hn1 h
    go_enter Tryz.func60, Tryz.ntmps60
    go_wp2_with fail
    refine T.out.mono ?_
    rintro e w' ⟨h1, rfl⟩
    obtain ⟨s', j, rfl, h2⟩ := h1
    have F : Hid (VTail xs (.returned (.string s'))) := ⟨s', j, rfl, h2⟩
    clear h2 T
    go_wp2_with fail
    go_ret
    exact ⟨F.out, rfl⟩
end Go.Proofs.YtjkefcikepnbpaaGreatDoor

namespace Go.Proofs.YtjkefcikepnbpaaGreatDoor
open Go Go.RowKit Go.Deep

def decV (neg : Bool) (s : ByteArray) (e : Int) : Value := .agg #[.bool neg, .string s, .int .i64 e]
/-- A value is this Dec. -/
def DecIs (v : Value) (d : Sc.D) : Prop := ∃ s, v = decV d.neg s d.e ∧ Str s d.ds

/-- Three cells that may be written. -/
def Row3 (w : World) (b : Nat) (v0 v1 v2 : Value) : Prop := w.heap[b]? = some (.cells #[v0, v1, v2] 25 (0, 0))
theorem Row3.new (w : World) (v0 v1 v2 : Value) : Row3 (w.alloc (.cells #[v0, v1, v2] 25)) w.heap.size v0 v1 v2 := heap_alloc_new w _
theorem Row3.below {B : Nat} {w w' : World} {b : Nat} {v0 v1 v2 : Value} (h : Row3 w b v0 v1 v2) (hB : Below B w w') (hb : b < B) : Row3 w' b v0 v1 v2 := by
  rw [Row3, hB.block b hb]; exact h
theorem Row3.lt {w : World} {b : Nat} {v0 v1 v2 : Value} (h : Row3 w b v0 v1 v2) : b < w.heap.size := by
  rcases Nat.lt_or_ge b w.heap.size with hl | hl
  · exact hl
  · simp [Row3, Array.getElem?_eq_none hl] at h
theorem Row3.cells {w : World} {b : Nat} {v0 v1 v2 : Value} (h : Row3 w b v0 v1 v2) :
    (w.cell? ⟨b, 0, none⟩ = some v0 ∧ w.cell? ⟨b, 1, none⟩ = some v1 ∧ w.cell? ⟨b, 2, none⟩ = some v2) ∧
    (w.frozen? ⟨b, 0, none⟩ = false ∧ w.frozen? ⟨b, 1, none⟩ = false ∧ w.frozen? ⟨b, 2, none⟩ = false) := by
  simp only [Row3] at h
  refine ⟨⟨?_, ?_, ?_⟩, ⟨?_, ?_, ?_⟩⟩ <;> simp [World.cell?, World.frozen?, h]
theorem Row3.put {w : World} {b : Nat} {v0 v1 v2 : Value} (h : Row3 w b v0 v1 v2) (u0 u1 u2 : Value) :
    Row3 (((w.setCell ⟨b, 0, none⟩ u0).setCell ⟨b, 1, none⟩ u1).setCell ⟨b, 2, none⟩ u2) b u0 u1 u2 := by
  have h0 := set1 (o := 0) (v := u0) (c' := #[u0, v1, v2]) h (by simp [Array.setIfInBounds])
  have h1 := set1 (o := 1) (v := u1) (c' := #[u0, u1, v2]) h0 (by simp [Array.setIfInBounds])
  exact set1 (o := 2) (v := u2) (c' := #[u0, u1, u2]) h1 (by simp [Array.setIfInBounds])
theorem Row3.far {w : World} {b c o : Nat} {v v0 v1 v2 : Value} (h : Row3 w b v0 v1 v2) (hc : c ≠ b) : Row3 (w.setCell ⟨c, o, none⟩ v) b v0 v1 v2 := by
  simp only [Row3] at *
  simp only [World.setCell, Array.getElem?_modify]
  rw [if_neg hc]; exact h
theorem set3_below {B : Nat} {w w' : World} {b : Nat} {u0 u1 u2 : Value} (h : Below B w w') (hb : B ≤ b) : Below B w (((w'.setCell ⟨b, 0, none⟩ u0).setCell ⟨b, 1, none⟩ u1).setCell ⟨b, 2, none⟩ u2) :=
  ((h.setCell (p := ⟨b, 0, none⟩) hb u0).setCell (p := ⟨b, 1, none⟩) hb u1).setCell (p := ⟨b, 2, none⟩) hb u2

/-- Two boxes for Decs, new. -/
def Two3 (w w' : World) (v0 v1 v2 u0 u1 u2 : Value) : Prop := Below w.heap.size w w' ∧ Row3 w' w.heap.size v0 v1 v2 ∧ Row3 w' (w.heap.size + 1) u0 u1 u2
theorem Two3.new (w : World) (v0 v1 v2 u0 u1 u2 : Value) : Two3 w ((w.alloc (.cells #[v0, v1, v2] 25)).alloc (.cells #[u0, u1, u2] 25)) v0 v1 v2 u0 u1 u2 :=
  ⟨below_on (alloc_b _ _) (alloc_b _ _), heap_alloc2_old _ _ _, heap_alloc2_new _ _ _⟩
theorem Two3.on {w w' w'' : World} {v0 v1 v2 u0 u1 u2 : Value} (h : Two3 w w' v0 v1 v2 u0 u1 u2) (k : Below w'.heap.size w' w'') : Two3 w w'' v0 v1 v2 u0 u1 u2 :=
  ⟨below_on h.1 k, h.2.1.below k h.2.1.lt, h.2.2.below k h.2.2.lt⟩
theorem Two3.putB {w w' : World} {v0 v1 v2 u0 u1 u2 : Value} (h : Two3 w w' v0 v1 v2 u0 u1 u2) (x0 x1 x2 : Value) : Two3 w (((w'.setCell ⟨w.heap.size + 1, 0, none⟩ x0).setCell ⟨w.heap.size + 1, 1, none⟩ x1).setCell ⟨w.heap.size + 1, 2, none⟩ x2) v0 v1 v2 x0 x1 x2 :=
  ⟨set3_below h.1 (Nat.le_succ _), ((h.2.1.far (by omega)).far (by omega)).far (by omega), h.2.2.put _ _ _⟩
theorem Two3.putA {w w' : World} {v0 v1 v2 u0 u1 u2 : Value} (h : Two3 w w' v0 v1 v2 u0 u1 u2) (x0 x1 x2 : Value) : Two3 w (((w'.setCell ⟨w.heap.size, 0, none⟩ x0).setCell ⟨w.heap.size, 1, none⟩ x1).setCell ⟨w.heap.size, 2, none⟩ x2) x0 x1 x2 u0 u1 u2 :=
  ⟨set3_below h.1 (Nat.le_refl _), h.2.1.put _ _ _, ((h.2.2.far (by omega)).far (by omega)).far (by omega)⟩

theorem str_zero : Str ⟨#[48]⟩ [48] := rfl

theorem dec_ret {v : Value} {d : Sc.D} {w w' : World} (h : DecIs v d) (b : Below w.heap.size w w') : ∃ v', Ending.returned v = .returned v' ∧ DecIs v' d ∧ Below w.heap.size w w' := ⟨v, rfl, h, b⟩

set_option maxRecDepth 100000 in
set_option maxHeartbeats 1000000 in
theorem dtrim_any (neg : Bool) (s : ByteArray) (xs : List Int) (e : Int) (w : World) (hs : Str s xs) (hn : xs.length ≤ 281474976710656) (e0 : -4611686018427387904 ≤ e) (e1 : e ≤ 4611686018427387904) :
    Calls Tryz.prog 75 #[decV neg s e] w fun r w' => ∃ v, r = .returned v ∧ DecIs v (Sc.nrm neg xs e) ∧ Below w.heap.size w w' := by
  have L := hid (fun wx => strim_any s xs wx hs (by omega))
  have HN := hid hn
  clear hs hn
  unfold decV
  go_enter Tryz.func75, Tryz.ntmps75
  go_wp2_with fail
  refine (L.out _).mono ?_
  rintro r w1 ⟨⟨s1, j, rfl, ⟨b1, b2, b3⟩, b4⟩, rfl⟩
  by_cases h : j = xs.length
  · have hs1 : s1 = ⟨#[]⟩ := b1.inj (by rw [List.drop_of_length_le (by omega)]; rfl)
    have F : Hid (Sc.nrm neg xs e = ⟨neg, [48], 0⟩) := Sc.nrm_of_none (fun i hi => b3 i (by omega))
    subst hs1
    clear b1 b2 b3 b4
    go_wp2_with fail
    (try simp only [Exit.inBlock, Exit.then])
    refine bodyPost_ret (results_cell_row rfl _ _ (w.heap.size + 1) 25 _ (0, 0) _ rfl (Two3.new w _ _ _ _ _ _).2.2 Tryz.underlying25 rfl (by kernel_rfl)) rfl ?_
    exact dec_ret (by rw [F.out]; exact ⟨_, rfl, str_zero⟩) (Two3.new w _ _ _ _ _ _).1
  · have hlt : j < xs.length := by omega
    have hne := b4 hlt
    have R := hid (fun wx => vrtrim0_any s1 (xs.drop j) wx b1 (by have := HN.out; simp; omega))
    have hsz : s1.size = xs.length - j := by have := b1.size; simpa using this
    have q1 : s1.toList ≠ [] := by
      intro c
      have : s1.size = 0 := by
        rw [ByteArray.toList_eq] at c
        have := congrArg List.length c
        rw [Array.length_toList] at this
        exact this
      omega
    have q2 : (s1.toList == []) = false := by rw [beq_eq_false_iff_ne]; exact q1
    have q3 : s1.toList.isEmpty = false := by rw [List.isEmpty_eq_false_iff]; exact q1
    have N2 : Hid (∀ k, k ≤ (xs.drop j).length → (∀ i, k ≤ i → i < (xs.drop j).length → (xs.drop j).getD i 0 = 48) → (0 < k → (xs.drop j).getD (k - 1) 0 ≠ 48) → Sc.nrm neg xs e = ⟨neg, (xs.drop j).take k, e + (xs.drop j).length - k⟩ ∧ 0 < k) := fun k x1 x2 x3 => Sc.nrm_of_trims hlt b3 hne x1 x2 x3
    have HL : Hid ((xs.drop j).length = xs.length - j) := by show _ = _; simp
    obtain ⟨m, hm⟩ : ∃ m, xs.length - j = m := ⟨_, rfl⟩
    rw [hm] at hsz HL
    have hmb : (m : Int) ≤ 281474976710656 := by have := HN.out; omega
    clear b1 b2 b3 b4 hlt hne hm h
    go_wp2_with fail
    refine (R.out _).mono ?_
    rintro r w2 ⟨⟨s2, k, rfl, c1, c2, c3, c4⟩, rfl⟩
    have NN := hid (N2.out k c2 c3 c4)
    have hk2 : s2.size = k := by have := c1.size; rw [List.length_take] at this; omega
    have hkm : (k : Int) ≤ (m : Int) := by have := HL.out; omega
    have HC := hid c1
    clear c1 c2 c3 c4 R N2 L
    go_wp2_with fail
    (try simp only [Exit.inBlock, Exit.then])
    refine bodyPost_ret (results_cell_row rfl _ _ (w.heap.size + 1) 25 _ (0, 0) _ rfl (Two3.new w _ _ _ _ _ _).2.2 Tryz.underlying25 rfl (by kernel_rfl)) rfl ?_
    exact dec_ret (by rw [NN.out.1, HL.out]; exact ⟨_, rfl, HC.out⟩) (Two3.new w _ _ _ _ _ _).1
end Go.Proofs.YtjkefcikepnbpaaGreatDoor

/-
  A state as one predicate: what it says of the memory, and that only new memory was written.
-/
namespace Go.Proofs.YtjkefcikepnbpaaGreatDoor
open Go Go.RowKit Go.Deep

structure St (S : World → Prop) (w wx : World) : Prop where
  cells : S wx
  bel : Below w.heap.size w wx

def Stays (S : World → Prop) : Prop := ∀ wx w' : World, S wx → Below wx.heap.size wx w' → S w'

theorem St.on {S : World → Prop} {w wx w' : World} (h : St S w wx) (k : Stays S) (hB : Below wx.heap.size wx w') : St S w w' := ⟨k _ _ h.cells hB, h.bel.trans (hB.mono h.bel.size)⟩
theorem St.drew {S : World → Prop} {w wx : World} (h : St S w wx) (k : Stays S) : St S w wx.drew := h.on k ⟨rfl, rfl, rfl, Nat.le_refl _, fun _ _ => rfl⟩
theorem St.more {S T : World → Prop} {w wx w' : World} (h : St S w wx) (k : Stays S) (hB : Below wx.heap.size wx w') (t : T w') : St (fun x => S x ∧ T x) w w' := ⟨⟨k _ _ h.cells hB, t⟩, h.bel.trans (hB.mono h.bel.size)⟩
theorem St.to {S T : World → Prop} {w wx w' : World} (h : St S w wx) (hB : Below wx.heap.size wx w') (t : T w') : St T w w' := ⟨t, h.bel.trans (hB.mono h.bel.size)⟩

theorem Stays.cell (a : Addr) (v : Value) : Stays (fun w => w.cell? a = some v) := fun _ _ h hB => (hB.cell (cell_lt h)).trans h
theorem Stays.and {S T : World → Prop} (h : Stays S) (k : Stays T) : Stays (fun w => S w ∧ T w) := fun _ _ g hB => ⟨h _ _ g.1 hB, k _ _ g.2 hB⟩
theorem Stays.arg (p : Option Addr) (n cap : Nat) (os : List Int) : Stays (fun w => Arg w p n cap os) := fun _ _ h hB => h.below hB (Nat.le_refl _)
theorem Stays.tab : Stays Tab := fun _ _ h hB => h.below hB
theorem Stays.bel (w : World) : Stays (fun x => Below w.heap.size w x) := fun _ _ h hB => h.trans (hB.mono h.size)
/-- The state under a name of its own. -/
theorem state (S : World → Prop) (w : World) (k : Stays S) : ∃ SS : World → Prop, Hid (∀ wx w' : World, SS wx → Below wx.heap.size wx w' → SS w') ∧ Hid (∀ wx : World, SS wx → S wx) ∧ Hid (∀ wx : World, SS wx → Below w.heap.size w wx) ∧ Hid (∀ wx : World, S wx → Below w.heap.size w wx → SS wx) :=
  ⟨St S w, fun _ _ h hB => h.on k hB, fun _ h => h.cells, fun _ h => h.bel, fun _ h b => ⟨h, b⟩⟩

theorem drew_nil (w : World) : Below w.heap.size w w.drew := ⟨rfl, rfl, rfl, Nat.le_refl _, fun _ _ => rfl⟩
end Go.Proofs.YtjkefcikepnbpaaGreatDoor
