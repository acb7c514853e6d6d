/-
  Texts put together: NLimb, NSTrim, MulAddW, NNatural, NFrom.
-/
import Derived.Test.YtbldddagddmbgaaDoorNDigit
import Derived.Test.YtbldddagddmbgaaDoorNGroup
import Derived.Test.YtbldddagddmbgaaDoorNStr
import Derived.Test.YtbldddagddmbgaaDoorBare
import Derived.Test.YtbldddagddmbgaaDoorQGives
import Derived.BigRegion
import Derived.Deep.LoopGhost
import Derived.Deep.CutRange
import Derived.OwnWalk
namespace Go.Proofs.YtbldddagddmbgaaDoor
open Go.RowKit Go.Deep

theorem bytes_cells {s : ByteArray} {xs : List Int} (hs : Str s xs) (w : World) (cap : Nat) (fr : Nat × Nat) (i : Nat) (hi : i < xs.length) : (w.drew.alloc (.cells (bytesRow s cap) 5 fr)).cell? ⟨w.heap.size, i, none⟩ = some (.int .u8 (xs.getD i 0)) := by
  have h1 := World.cell?_alloc_mark w.drew (bytesRow s cap) 5 fr i
  have hi2 : i < s.data.size := by have := hs.size; have e : s.size = s.data.size := rfl; omega
  rw [show w.drew.heap.size = w.heap.size from rfl, bytesRow_at s cap i hi2] at h1
  rw [h1, ← hs.at i hi2]
  rfl

theorem tv_take_succ (B : Int) (ys : List Int) (j : Nat) (hj : j < ys.length) : Dn.tv B 0 (ys.take (j + 1)) = Dn.tv B 0 (ys.take j) * B + ys.getD j 0 := by
  rw [List.take_add_one, List.getElem?_eq_getElem hj, Dn.tv_append]
  simp [Dn.tv, List.getD, hj]

set_option maxRecDepth 100000 in
set_option maxHeartbeats 1000000 in
theorem limb_any (s : ByteArray) (xs : List Int) (n W : Nat) (B : Int) (w : World) (hs : Str s xs) (hn : xs.length = n) (hnW : n ≤ W) (hW : W ≤ 63) (h2 : 2 ≤ B) (h36 : B ≤ 36) (hBW : B ^ W < 18446744073709551616) (hd : ∀ i, i < xs.length → wv (xs.getD i 0) < B) :
    Calls Tryd.prog 76 #[.string s, .int .u64 B] w fun e w' => e = .returned (.int .u64 (Dn.tv B 0 (xs.map wv))) ∧ Below w.heap.size w w' := by
  have CV := run_bytes_of_string (P := Tryd.prog) w 9 64 5 s Tryd.underlying9 Tryd.underlying64 Tryd.underlying5
  have hsz : s.size = n := by rw [hs.size, hn]
  rw [hsz] at CV
  obtain ⟨cap, hcap⟩ : ∃ cap, grownCap w n 0 5 = cap := ⟨_, rfl⟩
  rw [hcap] at CV
  have CE := hid (fun i hi => bytes_cells hs w cap ((bytesRow s cap).size, (bytesRow s cap).size + 1) i hi)
  have BW : Below w.heap.size w (w.drew.alloc (.cells (bytesRow s cap) 5 ((bytesRow s cap).size, (bytesRow s cap).size + 1))) := (below_drewN (Below.refl _ _) 1).alloc (Nat.le_refl _) _
  obtain ⟨w1, hw1⟩ : ∃ w1, w.drew.alloc (.cells (bytesRow s cap) 5 ((bytesRow s cap).size, (bytesRow s cap).size + 1)) = w1 := ⟨_, rfl⟩
  rw [hw1] at CV CE BW
  have HS := hid hs
  have HN := hid hn
  have HD := hid hd
  have D1 := hid BW
  have HB : ShutG (B ^ W < 18446744073709551616) := ⟨hBW⟩
  clear hs hn hd BW hw1 hcap hBW
  go_enter Tryd.func76, Tryd.ntmps76
  go_wp2_with fail
  go_loop [5, 7, 11] (fun a _ c => ∃ (j : Nat) (A : Int), a = .int .u64 A ∧ c = .int .i64 (j : Int) ∧ j ≤ n ∧ Hid (A = Dn.tv B 0 ((xs.map wv).take j))) (fun _ _ c => n - (intOf c).toNat)
  case atStart => exact ⟨0, 0, rfl, rfl, Nat.zero_le _, by simp [Hid, Dn.tv]⟩
  case round =>
    obtain ⟨j, A, rfl, rfl, hj, I⟩ := hrel
    have hn63 : (n : Int) ≤ 63 := by omega
    by_cases hlt : j < n
    · have hji : (j : Int) < (n : Int) := by omega
      obtain ⟨x, hx, X⟩ : ∃ x, w1.cell? ⟨w.heap.size, j, none⟩ = some (.int .u8 x) ∧ Hid (x = xs.getD j 0) := ⟨_, CE.out j (by have := HN.out; omega), rfl⟩
      have hxb := HS.out.atb j
      rw [← X.out] at hxb
      obtain ⟨v, V⟩ : ∃ v, Hid (wv x = v) := ⟨_, rfl⟩
      have WO := hid (worth_any x w1 hxb.1 hxb.2)
      rw [V.out] at WO
      have hv0 : 0 ≤ v := by have := (wv_bd x).1; have := V.out; omega
      have ST := tv_take_succ B (xs.map wv) j (by have := HN.out; simp; omega)
      have e0 : (xs.map wv).getD j 0 = v := by
        rw [← V.out, X.out]
        have : j < xs.length := by have := HN.out; omega
        simp [List.getD, this]
      rw [e0, ← I.out] at ST
      have dig : ∀ d ∈ (xs.map wv), 0 ≤ d ∧ d < B := by
        intro d hd
        obtain ⟨y, hy, rfl⟩ := List.mem_map.1 hd
        obtain ⟨i, hi, rfl⟩ := List.getElem_of_mem hy
        have := HD.out i hi
        simp only [List.getD, List.getElem?_eq_getElem hi, Option.getD_some] at this
        exact ⟨(wv_bd _).1, this⟩
      have hA0 : 0 ≤ A := by rw [I.out]; exact Dn.tv_nonneg (by omega) 0 _ (by omega) (fun d hd => (dig d (List.mem_of_mem_take hd)).1)
      have hlt2 : A * B + v < 18446744073709551616 := by
        rw [← ST]
        have h1 := Dn.tv_lt (show 0 < B by omega) ((xs.map wv).take (j + 1)) (fun d hd => dig d (List.mem_of_mem_take hd))
        have h3 := Pn.pow_mono (show 1 ≤ B by omega) (show ((xs.map wv).take (j + 1)).length ≤ W by simp; omega)
        have h4 := HB.out
        omega
      have hC0 : 0 ≤ A * B := Int.mul_nonneg hA0 (by omega)
      obtain ⟨C, HC⟩ : ∃ C, Hid (A * B = C) := ⟨_, rfl⟩
      rw [HC.out] at hlt2 hC0 ST
      have q1 : IntKind.u64.wrap (A * B) = C := by rw [HC.out, IntKind.wrap_u64]; omega
      have I2 := hid ST.symm
      clear I ST dig e0 hxb
      go_wp2_with fail
      refine WO.out.mono ?_
      rintro e w' ⟨rfl, rfl⟩
      clear WO
      go_wp2_with fail
      go_round
      case rel => exact ⟨j + 1, C + v, rfl, by go_num, by omega, I2.out⟩
      case measure => simp [intOf]; omega
    · obtain rfl : j = n := by omega
      have F : Hid (A = Dn.tv B 0 (xs.map wv)) := by
        have := I.out
        rw [List.take_of_length_le (by have := HN.out; simp; omega)] at this
        exact this
      clear I
      go_wp2_with fail
      go_ret
      exact ⟨by rw [← F.out]; rfl, D1.out⟩
end Go.Proofs.YtbldddagddmbgaaDoor

namespace Go.Proofs.YtbldddagddmbgaaDoor
open Go.RowKit Go.Deep

/-- s' is s without some zeros at its head, and opens with none. -/
def Bared (xs : List Int) (s' : ByteArray) (j : Nat) : Prop := Str s' (xs.drop j) ∧ j ≤ xs.length ∧ (∀ i, i < j → xs.getD i 0 = 48)

def STold (xs : List Int) (e : Ending) : Prop := ∃ s' j, e = .returned (.string s') ∧ Bared xs s' j ∧ (j < xs.length → xs.getD j 0 ≠ 48)

set_option maxRecDepth 100000 in
set_option maxHeartbeats 1000000 in
theorem strim1_any (s : ByteArray) (xs : List Int) (w : World) (hs : Str s xs) (hn1 : xs.length ≤ 140737488355328) :
    Calls Tryd.prog 85 #[.string s, .int .u8 48] w fun e w' => STold xs e ∧ w' = w := by
  have HS := hid hs
  have HN := hid hn1
  clear hs hn1
  go_enter Tryd.func85, Tryd.ntmps85
  go_wp2_with fail
  go_loop [0] (fun c => ∃ s' j, c = .string s' ∧ Hid (Bared xs s' j)) (fun c => match c with | .string s' => s'.size | _ => 0)
  case atStart => exact ⟨s, 0, rfl, HS.out, Nat.zero_le _, fun i hi => by omega⟩
  case round =>
    obtain ⟨s', j, rfl, I⟩ := hrel
    obtain ⟨m, HM⟩ : ∃ m, Hid (s'.size = m) := ⟨_, rfl⟩
    have hsz : s'.size = m := HM.out
    have hjm : Hid (j + m = xs.length) := by show _ = _; have := I.out.1.size; have := I.out.2.1; have := HM.out; simp at *; omega
    have hmb : (m : Int) ≤ 140737488355328 := by have := HN.out; have := hjm.out; omega
    by_cases h0 : m = 0
    · subst h0
      have F : Hid (STold xs (.returned (.string s'))) := ⟨s', j, rfl, I.out, fun h => by have := hjm.out; omega⟩
      clear I
      go_wp2_with fail
      go_ret
      exact ⟨F.out, rfl⟩
    · have hm : 0 < m := by omega
      have hmi : (0 : Int) < (m : Int) := by omega
      obtain ⟨x, X⟩ : ∃ x, Hid (xs.getD j 0 = x) := ⟨_, rfl⟩
      have hx : ∀ h : 0 < s'.size, ((s'[0]'h).toNat : Int) = x := fun h => by rw [I.out.1.at 0 h, ← X.out]; simp [List.getD]
      by_cases hd : x = 48
      · subst hd
        have F : Hid (Bared xs (s'.extract 1 s'.size) (j + 1)) := by
          refine ⟨?_, by have := hjm.out; omega, fun i hi => ?_⟩
          · have := I.out.1.extract 1 s'.size
            rw [List.drop_drop, List.take_of_length_le (by have := hjm.out; have := HM.out; simp; omega)] at this
            exact this
          · by_cases e : i = j
            · subst e; exact X.out
            · exact I.out.2.2 i (by omega)
        rw [hsz] at F
        have SZ : Hid ((s'.extract 1 m).size < s'.size) := by
          show _ < _
          have e1 := F.out.1.size
          have e2 := HM.out
          have e3 := hjm.out
          simp only [List.length_drop] at e1
          omega
        clear I
        go_wp2_with fail
        go_round
        case rel => exact ⟨_, _, rfl, F.out⟩
        case measure => exact SZ.out
      · have hd2 : (x == 48) = false := by rw [beq_eq_false_iff_ne]; exact hd
        have F : Hid (STold xs (.returned (.string s'))) := ⟨s', j, rfl, I.out, fun _ => by rw [X.out]; exact hd⟩
        clear I
        go_wp2_with fail
        go_ret
        exact ⟨F.out, rfl⟩

set_option maxRecDepth 100000 in
theorem strim_any (s : ByteArray) (xs : List Int) (w : World) (hs : Str s xs) (hn1 : xs.length ≤ 140737488355328) :
    Calls Tryd.prog 73 #[.string s, .string ⟨#[48]⟩] w fun e w' => STold xs e ∧ w' = w := by
  have T := hid (strim1_any s xs w hs hn1)
  by_cases h : xs = []
  · have F : Hid (STold xs (.returned (.string s))) := ⟨s, 0, rfl, ⟨by simpa using hs, Nat.zero_le _, fun i hi => by omega⟩, fun hlt => by rw [h] at hlt; simp at hlt⟩
    have hs0 : s = ⟨#[]⟩ := hs.inj (by rw [h]; rfl)
    subst hs0
    clear hs hn1 h
    go_enter Tryd.func73, Tryd.ntmps73
    go_wp2_with fail
    go_ret
    exact ⟨F.out, rfl⟩
  · have e0 := hs.eq (t := ⟨#[]⟩) (ys := []) rfl
    rw [decide_eq_false h] at e0
    have e1 : s.toList ≠ [] := by
      intro c
      apply h
      rw [ByteArray.toList_eq] at c
      rw [← hs, c]
      rfl
    have e2 : (s.toList == []) = false := by rw [beq_eq_false_iff_ne]; exact e1
    have e3 : s.toList.isEmpty = false := by rw [List.isEmpty_eq_false_iff]; exact e1
    clear hs hn1 h
    go_enter Tryd.func73, Tryd.ntmps73
    go_wp2_with fail
    refine T.out.mono ?_
    rintro e w' ⟨h1, rfl⟩
    obtain ⟨s', j, rfl, h2⟩ := h1
    have F : Hid (STold xs (.returned (.string s'))) := ⟨s', j, rfl, h2⟩
    clear h2 T
    go_wp2_with fail
    go_ret
    exact ⟨F.out, rfl⟩
end Go.Proofs.YtbldddagddmbgaaDoor

namespace Go.Proofs.YtbldddagddmbgaaDoor
open Go.RowKit Go.Deep

/-- The limbs of one round. -/
theorem ma_step {x m c p l h s k : Int} (hp : l + 18446744073709551616 * h = p) (hl : 0 ≤ l ∧ l < 18446744073709551616) (hh : 0 ≤ h) (hx : 0 ≤ x ∧ x < 18446744073709551616) (hm : 0 ≤ m ∧ m < 18446744073709551616) (hxm : p = x * m)
    (hc : 0 ≤ c ∧ c < 18446744073709551616) (e1 : s = (l + c + 0) % 18446744073709551616) (e2 : k = (l + c + 0) / 18446744073709551616) :
    (0 ≤ s ∧ s < 18446744073709551616) ∧ (0 ≤ h + k ∧ h + k < 18446744073709551616) ∧ s + 18446744073709551616 * (h + k) = x * m + c := by
  have hb : x * m ≤ 18446744073709551615 * 18446744073709551615 := Int.mul_le_mul (by omega) (by omega) (by omega) (by omega)
  rw [← hxm] at hb ⊢
  clear hxm
  omega

set_option maxRecDepth 100000 in
set_option maxHeartbeats 1000000 in
/-- The loop of MulAdd, whatever the size of the answer. -/
theorem mulAdd_any (p : Option Addr) (n cap : Nat) (zs : List Int) (m c : Int) (w : World) (ha : Arg w p n cap zs) (tz : Nm.tsize zs ≤ 4096) (hm0 : 0 ≤ m) (hm1 : m < 18446744073709551616) (hc0 : 0 ≤ c) (hc1 : c < 18446744073709551616) :
    Calls Tryd.prog 75 #[.slice p n cap, .int .u64 m, .int .u64 c] w fun e w' =>
      (Nm.val zs * m + c < Nm.pw 4096 → ∃ r os, e = .returned (.tuple #[.slice r (List.length os) (List.length os), .int .i64 0]) ∧ Ans w.heap.size w' r os (Nm.val zs * m + c)) ∧
      (Nm.pw 4096 ≤ Nm.val zs * m + c → e = .returned (.tuple #[.slice none 0 0, .int .i64 2])) ∧ Below w.heap.size w w' := by
  obtain ⟨a1, a2, a3, a4, a5⟩ := ha
  obtain ⟨N, HN⟩ : ∃ N, Hid (Nm.tsize zs = N) := ⟨_, rfl⟩
  have T1 := limited_ok p n cap zs w a1 a2 (by omega) a4 tz
  rw [HN.out] at T1
  have hN : N ≤ 4096 := by rw [← HN.out]; exact tz
  have L1 := hid ((Nm.trim_length zs).trans HN.out)
  have hmk := make64 (N + 1) (by omega) w
  have em : ((N + 1 : Nat) : Int) = (N : Int) + 1 := by omega
  rw [em] at hmk
  clear em
  have ho : Own (w.alloc (.cells (madeCells #[.int .u64 0] (N + 1)) 27)) w.heap.size (List.replicate (N + 1) 0) := by
    rw [made_zero]; exact Own.alloc w _
  have hb0 : Below w.heap.size w (w.alloc (.cells (madeCells #[.int .u64 0] (N + 1)) 27)) := (Below.refl _ _).alloc (Nat.le_refl _) _
  obtain ⟨W0, hW0⟩ : ∃ W0, w.alloc (.cells (madeCells #[.int .u64 0] (N + 1)) 27) = W0 := ⟨_, rfl⟩
  have HB0 : Hid (Below w.heap.size w W0) := by rw [← hW0]; exact hb0
  have I0 : MaInv w.heap.size (N + 1) W0 (Nm.val ((Nm.trim zs).take 0) * m + c) 0 c (List.replicate (N + 1) 0) W0 := by
    rw [← hW0]
    exact ⟨⟨ho, by simp, Nm.Limbs.replicate _, by simp [Nm.val_replicate, Nm.val, Nm.pw], Below.refl _ _, rfl⟩, ⟨hc0, hc1⟩, fun i _ => getD_replicate _ _⟩
  have A5 := hid a5.trim
  have A4 := hid a4.trim
  have V := hid (Nm.val_trim zs)
  have HT := hid T1
  clear T1 tz ho hb0 a4 a5
  rw [hW0] at hmk
  clear hW0
  have fin : ∀ (os : List Int) (cc : Int) (wr : World), MaInv w.heap.size (N + 1) W0 (Nm.val (Nm.trim zs) * m + c) N cc os wr → Own (wr.setCell ⟨w.heap.size, N, none⟩ (.int .u64 cc)) w.heap.size (os.set N cc) ∧ (os.set N cc).length = N + 1 ∧ Nm.Limbs (os.set N cc) ∧ Nm.val (os.set N cc) = Nm.val zs * m + c ∧ Below w.heap.size w (wr.setCell ⟨w.heap.size, N, none⟩ (.int .u64 cc)) := by
    intro os cc wr I
    obtain ⟨⟨i1, i2, i3, i4, i5, i6⟩, i7, i8⟩ := I
    refine ⟨i1.set _ _, by simpa using i2, i3.set _ i7.1 i7.2, ?_, HB0.out.trans (i5.setCell (Nat.le_refl _) _)⟩
    rw [Nm.val_set _ _ _ (by omega), i8 N (Nat.le_refl _), Int.sub_zero, i4, V.out]
  have FIN := hid fin
  clear fin
  by_cases h0 : N = 0
  · subst h0
    have hx : Nm.trim zs = [] := List.eq_nil_of_length_eq_zero L1.out
    rw [show (Nm.trim zs).take 0 = Nm.trim zs by rw [hx]; rfl] at I0
    have F := FIN.out _ _ _ I0
    obtain ⟨y, hy⟩ : ∃ y, W0.cell? ⟨w.heap.size, 0, none⟩ = some (.int .u64 y) := ⟨_, I0.1.1.cell 0 (by simp)⟩
    have hfr := I0.1.1.free 0
    have HF := hid F
    clear F I0 hx
    have hmk1 : (Instr.makeSlice 28 (.int .i64 1) (.int .i64 1)).run Tryd.prog w = .ok (.slice (some ⟨w.heap.size, 0, none⟩) 1 1) W0 := hmk
    clear hmk
    go_enter Tryd.func75, Tryd.ntmps75
    go_wp2_with fail
    refine HT.out.mono ?_
    rintro e w' ⟨rfl, rfl⟩
    go_wp2_with fail
    refine wp_loop_rounds 1 ?_
    rw [rounds_succ]
    go_wp2_with fail
    obtain ⟨f1, f2, f3, f4, f5⟩ := HF.out
    by_cases hbig : Nm.val zs * m + c < Nm.pw 4096
    · refine (limited_own w'.heap.size (0 + 1) _ _ f2 (by omega) f1 f3 w'.heap.size (Nat.le_refl _) (by rw [f4]; exact hbig)).mono ?_
      rintro e w3 ⟨r, xs, rfl, hans, rfl⟩
      rw [f4] at hans
      have HA := hid hans
      have HB := hid hbig
      clear hans f1 f2 f3 f4 f5 hbig
      go_wp2_with fail
      go_ret2
      exact ⟨fun _ => ⟨r, xs, rfl, HA.out⟩, fun h => by have := HB.out; omega, HF.out.2.2.2.2⟩
    · refine (limited_own_big w'.heap.size (0 + 1) _ _ f2 (by omega) f1 f3 (by rw [f4]; omega)).mono ?_
      rintro e w3 ⟨rfl, rfl⟩
      have HB := hid hbig
      clear f1 f2 f3 f4 f5 hbig
      go_wp2_with fail
      go_ret2
      exact ⟨fun h => by have := HB.out; omega, fun _ => rfl, HF.out.2.2.2.2⟩
  · obtain ⟨b, off, rfl, hbw, HC⟩ := A4.out.at (by rw [L1.out]; omega)
    go_enter Tryd.func75, Tryd.ntmps75
    go_wp2_with fail
    refine HT.out.mono ?_
    rintro e w' ⟨rfl, rfl⟩
    go_wp2_with fail
    go_loopw [10, 31] (fun a i wr => ∃ (j : Nat) (cc : Int) (os : List Int), j ≤ N ∧ i = .int .i64 j ∧ a = .int .u64 cc ∧ MaInv w'.heap.size (N + 1) W0 (Nm.val ((Nm.trim zs).take j) * m + c) j cc os wr) (fun _ i _ => N - (intOf i).toNat)
    case atStart => exact ⟨0, c, _, Nat.zero_le _, rfl, rfl, I0⟩
    case round =>
      clear I0 hmk
      obtain ⟨j, cc, os, hj, rfl, rfl, I⟩ := hrel
      by_cases hlt : j < N
      · obtain ⟨x, hx, X⟩ : ∃ x, wr.cell? ⟨b, off + j, none⟩ = some (.int .u64 x) ∧ Hid (x = (Nm.trim zs).getD j 0) :=
          ⟨_, ((HB0.out.trans I.1.2.2.2.2.1).cell (p := ⟨b, off + j, none⟩) hbw).trans (HC.out j (by rw [L1.out]; exact hlt)), rfl⟩
        have hx0 := A5.out.at j
        rw [← X.out] at hx0
        obtain ⟨hx0, hx1⟩ := hx0
        obtain ⟨y, hyc⟩ : ∃ y, wr.cell? ⟨w'.heap.size, j, none⟩ = some (.int .u64 y) := ⟨_, I.1.1.cell j (by have := I.1.2.1; omega)⟩
        have hfr := I.1.1.free j
        obtain ⟨hcc0, hcc1⟩ := I.2.1
        go_wp2_with fail
        refine (mul64 x m hx0 hx1 hm0 hm1 _).mono ?_
        rintro e w2 ⟨h, l, rfl, ⟨hh0, hh1, hl0, hl1⟩, P1, _, rfl⟩
        obtain ⟨s1, S1⟩ : ∃ s, Hid (s = (l + cc + 0) % 18446744073709551616) := ⟨_, rfl⟩
        obtain ⟨k1, K1⟩ : ∃ c, Hid (c = (l + cc + 0) / 18446744073709551616) := ⟨_, rfl⟩
        have ST := hid (ma_step P1.out ⟨hl0, hl1⟩ hh0 ⟨hx0, hx1⟩ ⟨hm0, hm1⟩ rfl ⟨hcc0, hcc1⟩ S1.out K1.out)
        have hk1 : 0 ≤ k1 := by have := K1.out; omega
        have hkk : h + k1 < 18446744073709551616 := ST.out.2.1.2
        go_wp2_with (simp only [add64' l cc 0 s1 k1 hl0 hcc0 (Int.le_refl 0) (by decide) S1.out K1.out])
        go_roundw
        case rel =>
          have hst := I.step (by omega) (x := x * m) (s := s1) (c' := h + k1) ST.out.1 ST.out.2.1 ST.out.2.2
          refine ⟨j + 1, h + k1, os.set j s1, by omega, by go_num, rfl, ?_⟩
          have e : Nm.val ((Nm.trim zs).take (j + 1)) * m + c = Nm.val ((Nm.trim zs).take j) * m + c + Nm.pw j * (x * m) := by
            rw [Nm.val_take_succ _ j (by rw [L1.out]; exact hlt), ← X.out, Int.add_mul, Int.mul_assoc]
            omega
          rw [e]
          exact hst
        case measure => simp [intOf]; omega
      · have hjN : j = N := by omega
        subst hjN
        rw [List.take_of_length_le (by rw [L1.out]; omega)] at I
        have F := FIN.out _ _ _ I
        obtain ⟨y, hy⟩ : ∃ y, wr.cell? ⟨w'.heap.size, j, none⟩ = some (.int .u64 y) := ⟨_, I.1.1.cell j (by have := I.1.2.1; omega)⟩
        have hfr := I.1.1.free j
        have HF := hid F
        clear F I
        go_wp2_with fail
        obtain ⟨f1, f2, f3, f4, f5⟩ := HF.out
        by_cases hbig : Nm.val zs * m + c < Nm.pw 4096
        · refine (limited_own w'.heap.size (j + 1) _ _ f2 (by omega) f1 f3 w'.heap.size (Nat.le_refl _) (by rw [f4]; exact hbig)).mono ?_
          rintro e w3 ⟨r, xs, rfl, hans, rfl⟩
          rw [f4] at hans
          have HA := hid hans
          have HB := hid hbig
          clear hans f1 f2 f3 f4 f5 hbig
          go_wp2_with fail
          go_ret2
          exact ⟨fun _ => ⟨r, xs, rfl, HA.out⟩, fun h => by have := HB.out; omega, HF.out.2.2.2.2⟩
        · refine (limited_own_big w'.heap.size (j + 1) _ _ f2 (by omega) f1 f3 (by rw [f4]; omega)).mono ?_
          rintro e w3 ⟨rfl, rfl⟩
          have HB := hid hbig
          clear f1 f2 f3 f4 f5 hbig
          go_wp2_with fail
          go_ret2
          exact ⟨fun h => by have := HB.out; omega, fun _ => rfl, HF.out.2.2.2.2⟩

/-- Of an operand that is too big. -/
theorem mulAdd_big (p : Option Addr) (n cap : Nat) (zs : List Int) (m c : Int) (w : World) (ha : Arg w p n cap zs) (tz : 4096 < Nm.tsize zs) :
    Calls Tryd.prog 75 #[.slice p n cap, .int .u64 m, .int .u64 c] w fun e w' => e = .returned (.tuple #[.slice none 0 0, .int .i64 2]) ∧ w' = w := by
  obtain ⟨a1, a2, a3, a4, a5⟩ := ha
  have HT := hid (limited_big p n cap zs w a1 a2 (by omega) a4 tz)
  go_enter Tryd.func75, Tryd.ntmps75
  go_wp2_with fail
  refine HT.out.mono ?_
  rintro e w' ⟨rfl, rfl⟩
  go_wp2_with fail
  go_ret2
  exact ⟨rfl, rfl⟩
end Go.Proofs.YtbldddagddmbgaaDoor

namespace Go.Proofs.YtbldddagddmbgaaDoor
open Go.RowKit Go.Deep

/-- The k-th group lies from at on, up to en. -/
structure Grp (r W k at_ en : Nat) : Prop where
  e : en = r + k * W
  z : k = 0 → at_ = 0
  s : ∀ q, k = q + 1 → at_ = r + q * W

theorem Grp.next {r W k a b : Nat} (h : Grp r W k a b) : Grp r W (k + 1) b (b + W) :=
  ⟨by rw [h.e, Nat.add_mul]; omega, fun c => by omega, fun q hq => by obtain rfl : q = k := by omega
                                                                      exact h.e⟩

theorem Grp.le {r W k a b : Nat} (h : Grp r W k a b) (hr : r ≤ W) : a ≤ b ∧ b - a ≤ W ∧ (0 < k → b = a + W) := by
  cases k with
  | zero => have := h.z rfl; have := h.e; omega
  | succ q =>
    have h1 := h.s q rfl
    have h2 := h.e
    rw [Nat.add_mul] at h2
    omega

theorem Grp.in {r W k a b Q m : Nat} (h : Grp r W k a b) (hm : m = r + Q * W) (ha : a < m) : k ≤ Q ∧ b ≤ m := by
  have hk : k ≤ Q := by
    cases k with
    | zero => omega
    | succ q =>
      have h1 := h.s q rfl
      have : q * W < Q * W := by omega
      have := Nat.lt_of_mul_lt_mul_right this
      omega
  refine ⟨hk, ?_⟩
  have := Nat.mul_le_mul_right W hk
  have := h.e
  omega

theorem tv_group (B : Int) (ys : List Int) (a b : Nat) (hab : a ≤ b) : Dn.tv B 0 (ys.take b) = Dn.tv B 0 (ys.take a) * B ^ ((ys.drop a).take (b - a)).length + Dn.tv B 0 ((ys.drop a).take (b - a)) := by
  have e : ys.take b = ys.take a ++ (ys.drop a).take (b - a) := by
    rw [show b = a + (b - a) by omega, List.take_add]
    simp
  rw [e, Dn.tv_append, Dn.tv_acc]

theorem tv_grows {B : Int} (hB : 1 ≤ B) (ys : List Int) (hd : ∀ d ∈ ys, 0 ≤ d) (k : Nat) : Dn.tv B 0 (ys.take k) ≤ Dn.tv B 0 ys := by
  have e : Dn.tv B 0 ys = Dn.tv B 0 (ys.take k) * B ^ (ys.drop k).length + Dn.tv B 0 (ys.drop k) := by
    conv => lhs; rw [← List.take_append_drop k ys]
    rw [Dn.tv_append, Dn.tv_acc]
  have h0 := Dn.tv_nonneg (B := B) (by omega) 0 (ys.take k) (Int.le_refl _) (fun d h => hd d (List.mem_of_mem_take h))
  have h1 := Dn.tv_nonneg (B := B) (by omega) 0 (ys.drop k) (Int.le_refl _) (fun d h => hd d (List.mem_of_mem_drop h))
  have h2 : 1 ≤ B ^ (ys.drop k).length := by have : 0 < B ^ (ys.drop k).length := Int.pow_pos (by omega); omega
  have h3 := Int.mul_le_mul_of_nonneg_left h2 h0
  rw [Int.mul_one] at h3
  omega

theorem tv_zeros (B : Int) : ∀ (j : Nat) (ys : List Int), j ≤ ys.length → (∀ i, i < j → ys.getD i 0 = 0) → Dn.tv B 0 (ys.drop j) = Dn.tv B 0 ys
  | 0, ys, _, _ => by simp
  | j + 1, [], h, _ => by simp at h
  | j + 1, y :: ys, h, hz => by
    have h0 := hz 0 (by omega)
    simp at h0
    subst h0
    have ih := tv_zeros B j ys (by simpa using h) (fun i hi => by have := hz (i + 1) (by omega); simpa using this)
    simpa [Dn.tv] using ih

theorem getD_map_wv (xs : List Int) (i : Nat) (hi : i < xs.length) : (xs.map wv).getD i 0 = wv (xs.getD i 0) := by simp [List.getD, hi]

theorem digs_mem {xs : List Int} {B : Int} (hd : ∀ i, i < xs.length → wv (xs.getD i 0) < B) : ∀ d ∈ xs.map wv, 0 ≤ d ∧ d < B := by
  intro d hm
  obtain ⟨y, hy, rfl⟩ := List.mem_map.1 hm
  obtain ⟨i, hi, rfl⟩ := List.getElem_of_mem hy
  have := hd i hi
  simp only [List.getD, List.getElem?_eq_getElem hi, Option.getD_some] at this
  exact ⟨(wv_bd _).1, this⟩

set_option maxRecDepth 100000 in
set_option maxHeartbeats 4000000 in
theorem natural_any (s : ByteArray) (xs : List Int) (B : Int) (w : World) (hs : Str s xs) (hn : xs.length ≤ 140737488355328) (h2 : 2 ≤ B) (h36 : B ≤ 36) (hd : ∀ i, i < xs.length → wv (xs.getD i 0) < B) :
    Calls Tryd.prog 56 #[.string s, .int .u64 B] w fun e w' => Gives (Dn.tv B 0 (xs.map wv)) w e w' := by
  have ST := hid (strim_any s xs w hs (by omega))
  have GR := hid (group_any B w h2 h36)
  have HD := hid hd
  have HN := hid hn
  obtain ⟨T, HT0⟩ : ∃ T, ShutG (Dn.tv B 0 (xs.map wv) = T) := ⟨_, ⟨rfl⟩⟩
  rw [HT0.out]
  clear hs hd hn
  go_enter Tryd.func56, Tryd.ntmps56
  go_wp2_with fail
  refine ST.out.mono ?_
  rintro e w' ⟨⟨s', j, rfl, BA, -⟩, rfl⟩
  obtain ⟨ys, hys⟩ : ∃ ys, xs.drop j = ys := ⟨_, rfl⟩
  have SY : Hid (Str s' ys) := by rw [← hys]; exact BA.1
  have TV : Hid (Dn.tv B 0 (xs.map wv) = Dn.tv B 0 (ys.map wv)) := by
    show _ = _
    rw [← hys, List.map_drop, tv_zeros B j (xs.map wv) (by simpa using BA.2.1) (fun i hi => by
      rw [getD_map_wv xs i (by have := BA.2.1; omega), BA.2.2 i hi]
      rfl)]
  have DY : Hid (∀ i, i < ys.length → wv (ys.getD i 0) < B) := by
    intro i hi
    rw [← hys] at hi ⊢
    have := HD.out (j + i) (by simp at hi; omega)
    simpa [List.getD] using this
  obtain ⟨m, HM⟩ : ∃ m, Hid (ys.length = m) := ⟨_, rfl⟩
  have hm47 : (m : Int) ≤ 140737488355328 := by have := HM.out; rw [← hys] at this; have := HN.out; simp at *; omega
  have hsz : s'.size = m := by rw [SY.out.size, HM.out]
  have HT : ShutG (Dn.tv B 0 (ys.map wv) = T) := ⟨TV.out.symm.trans HT0.out⟩
  clear HT0 ST BA hys TV HD HN
  go_wp2_with fail
  refine GR.out.mono ?_
  rintro e w' ⟨⟨W, P, rfl, hP, hW1, hW63, hPl⟩, rfl⟩
  have HP := hid hP
  have HPL := hid hPl
  have hP0 : 0 ≤ P := by rw [hP]; exact Int.le_of_lt (Int.pow_pos (by omega))
  obtain ⟨r, HR⟩ : ∃ r, Hid (m % W = r) := ⟨_, rfl⟩
  obtain ⟨Q, HQ⟩ : ∃ Q, Hid (m / W = Q) := ⟨_, rfl⟩
  have MQ : Hid (m = r + Q * W) := by show _ = _; rw [← HR.out, ← HQ.out]; have := Nat.mod_add_div m W; rw [Nat.mul_comm] at this; omega
  have hrW : Hid (r < W) := by show _ < _; rw [← HR.out]; exact Nat.mod_lt _ (by omega)
  have q1 : (m : Int) % (W : Int) = (r : Int) := by rw [← HR.out]; simp
  have q2 : (m : Int).tmod (W : Int) = (r : Int) := by rw [Int.tmod_eq_emod_of_nonneg (by omega)]; exact q1
  have hW0 : ((W : Int) == 0) = false := by rw [beq_eq_false_iff_ne]; omega
  have hWi : (W : Int) ≤ 63 := by omega
  clear GR hP hPl
  go_upto_region 4 with fail
  go_cut [9, 10] from 19 to 22 (fun a b wx => a = .int .i64 0 ∧ b = .int .i64 (r : Int) ∧ Hid (Below w'.heap.size w' wx))
  case first =>
    go_region
    all_goals (go_wp2_with fail; go_meet; exact ⟨rfl, rfl, below_drewN (Below.refl _ _) _⟩)
  case rest =>
    clear q1 q2 HR HQ
    obtain ⟨rfl, rfl, D0⟩ := hcut
    have G0 : Hid (Grp r W 0 0 r) := ⟨by omega, fun _ => rfl, fun q h => by omega⟩
    have A0 : Hid (Ans w'.heap.size wc none [] (Dn.tv B 0 ((ys.map wv).take 0))) := ⟨Lies.nil _ _, Nm.Limbs.nil, rfl, rfl, fun a h => by cases h⟩
    go_wp2_with fail
    go_loopg [8, 9, 10, 11] (Q + 1) (fun x o a b _ wr => ∃ (k at_ en : Nat) (q : Option Addr) (os : List Int), o = .slice q (List.length os) (List.length os) ∧ a = .int .i64 (at_ : Int) ∧ b = .int .i64 (en : Int) ∧ Hid (x + k = Q + 1 ∧ Grp r W k at_ en ∧ at_ ≤ m) ∧ Hid (Ans w'.heap.size wr q os (Dn.tv B 0 ((ys.map wv).take at_)) ∧ Below w'.heap.size w' wr) ∧ ShutG (Dn.tv B 0 ((ys.map wv).take at_) < Nm.pw 4096))
    case atStart => exact ⟨0, 0, r, none, [], rfl, rfl, rfl, ⟨by omega, G0.out, Nat.zero_le _⟩, ⟨A0.out, D0.out⟩, ⟨by simp only [List.take_zero, Dn.tv]; exact Nm.pw_pos 4096⟩⟩
    case round =>
      clear A0 D0 G0
      obtain ⟨k, at_, en, q, os, rfl, rfl, rfl, GK, I, SM⟩ := hrel
      by_cases hlt : at_ < m
      · have hli : (at_ : Int) < (m : Int) := by omega
        have GI := GK.out.2.1.in MQ.out hlt
        have GL := GK.out.2.1.le (Nat.le_of_lt hrW.out)
        have hae : (at_ : Int) ≤ (en : Int) := by omega
        have hem : (en : Int) ≤ (m : Int) := by omega
        obtain ⟨zs, hzs⟩ : ∃ zs, (ys.drop at_).take (en - at_) = zs := ⟨_, rfl⟩
        have SZ : Str (s'.extract at_ en) zs := by rw [← hzs]; exact SY.out.extract at_ en
        have hzl : zs.length = en - at_ := by rw [← hzs]; have := HM.out; simp; omega
        have hzd : ∀ i, i < zs.length → wv (zs.getD i 0) < B := by
          intro i hi
          have := DY.out (at_ + i) (by have := HM.out; omega)
          rw [← hzs]
          simpa [List.getD, List.getElem?_take, show i < en - at_ by omega] using this
        have LB := hid (limb_any (s'.extract at_ en) zs zs.length W B wr SZ rfl (by omega) hW63 h2 h36 (by rw [← HP.out]; exact HPL.out) hzd)
        obtain ⟨v, HVv⟩ : ∃ v, Hid (Dn.tv B 0 (zs.map wv) = v) := ⟨_, rfl⟩
        rw [HVv.out] at LB
        have zdm := digs_mem hzd
        have hv0 : 0 ≤ v := by rw [← HVv.out]; exact Dn.tv_nonneg (by omega) 0 _ (Int.le_refl _) (fun d h => (zdm d h).1)
        have hv1 : v < 18446744073709551616 := by
          rw [← HVv.out]
          have h1 := Dn.tv_lt (show 0 < B by omega) (zs.map wv) zdm
          have h3 := Pn.pow_mono (show 1 ≤ B by omega) (show (zs.map wv).length ≤ W by simp; omega)
          have h4 := HPL.out
          rw [HP.out] at h4
          omega
        obtain ⟨O, HO⟩ : ∃ O, ShutG (Dn.tv B 0 ((ys.map wv).take at_) = O) := ⟨_, ⟨rfl⟩⟩
        have NX : ShutG (O * P + v = Dn.tv B 0 ((ys.map wv).take en)) := by
          refine ⟨?_⟩
          rw [tv_group B (ys.map wv) at_ en (by omega), HO.out]
          have e1 : ((ys.map wv).drop at_).take (en - at_) = zs.map wv := by rw [← hzs, List.map_take, List.map_drop]
          rw [e1, HVv.out]
          rcases Nat.eq_zero_or_pos k with c | c
          · have h0 := GK.out.2.1.z c
            have : O = 0 := by rw [← HO.out, h0]; rfl
            rw [this, Int.zero_mul, Int.zero_mul]
          · rw [HP.out, show (zs.map wv).length = W by rw [List.length_map, hzl]; have := GL.2.2 c; omega]
        rw [HO.out] at I SM
        have ydm := digs_mem DY.out
        have GROW : ShutG (Dn.tv B 0 ((ys.map wv).take en) ≤ T) := ⟨by rw [← HT.out]; exact tv_grows (by omega) _ (fun d h => (ydm d h).1) _⟩
        have D1 := hid I.out.2
        have AR := hid (I.out.1.argT SM.out)
        have TS := hid (I.out.1.tsT SM.out)
        have VO := hid I.out.1.2.2.2.1
        have GN := hid GK.out.2.1.next
        have hen : en ≤ m := by omega
        have hkQ : Hid (k ≤ Q) := GI.1
        have GKx := hid GK.out.1
        clear SZ hzl hzd zdm ydm hzs I GK GI GL
        go_wp2_with fail
        refine LB.out.mono ?_
        rintro e w1 ⟨rfl, d1⟩
        have MA := hid (mulAdd_any q _ _ os P v w1 (AR.out.below d1 (Nat.le_refl _)) TS.out hP0 HPL.out hv0 hv1)
        rw [VO.out, NX.out] at MA
        have D2 := hid (chain D1.out d1 (Nat.le_refl _))
        clear d1 LB D1 AR TS VO
        go_wp2_with fail
        refine MA.out.mono ?_
        rintro e w2 ⟨m1, m2, d2⟩
        have D3 := hid (chain D2.out d2 (Nat.le_refl _))
        by_cases hbig : Nm.pw 4096 ≤ Dn.tv B 0 ((ys.map wv).take en)
        · have e1 := m2 hbig
          subst e1
          have F : Hid (Gives T w' (.returned (.tuple #[.slice none 0 0, .int .i64 2])) w2) := ⟨.inr ⟨Int.le_trans hbig GROW.out, rfl⟩, D3.out⟩
          clear m1 m2 d2 hbig MA
          go_wp2_with fail
          go_ret2
          exact F.out
        · obtain ⟨q2, os2, he, A2⟩ := m1 (Int.not_le.1 hbig)
          subst he
          have SM2 : ShutG (Dn.tv B 0 ((ys.map wv).take en) < Nm.pw 4096) := ⟨Int.not_le.1 hbig⟩
          have A3 : Hid (Ans w'.heap.size w2 q2 os2 (Dn.tv B 0 ((ys.map wv).take en))) := A2.upT (by have := D2.out.size; exact this)
          clear m1 m2 d2 hbig MA A2
          go_wp2_with fail
          go_roundg (gk - 1)
          case measure => have := GKx.out; have := hkQ.out; omega
          case rel => exact ⟨k + 1, en, en + W, q2, os2, rfl, rfl, by go_num, ⟨by have := GKx.out; have := hkQ.out; omega, GN.out, hen⟩, ⟨A3.out, D3.out⟩, SM2⟩
      · have hle : (m : Int) ≤ (at_ : Int) := by omega
        have e1 : Dn.tv B 0 ((ys.map wv).take at_) = T := by rw [List.take_of_length_le (by have := HM.out; simp; omega), HT.out]
        rw [e1] at I SM
        have F : Hid (Gives T w' (.returned (.tuple #[.slice q (List.length os) (List.length os), .int .i64 0])) wr) := ⟨.inl ⟨SM.out, q, os, rfl, I.out.1⟩, I.out.2⟩
        clear I SM e1 GK
        go_wp2_with fail
        go_ret2
        exact F.out
end Go.Proofs.YtbldddagddmbgaaDoor

namespace Go.Proofs.YtbldddagddmbgaaDoor
open Go.RowKit Go.Deep

/-- What FromBase tells. -/
inductive FromIs (xs : List Int) (B : Int) (w0 w' : World) : Option Addr → List Int → Int → Int → Prop
  | base : (B < 2 ∨ 36 < B) → FromIs xs B w0 w' none [] 0 32
  | empty : 2 ≤ B → B ≤ 36 → xs = [] → FromIs xs B w0 w' none [] 0 30
  | digit (t : Nat) : 2 ≤ B → B ≤ 36 → t < xs.length → (∀ i, i < t → wv (xs.getD i 0) < B) → B ≤ wv (xs.getD t 0) → FromIs xs B w0 w' none [] (t : Int) 31
  | big : 2 ≤ B → B ≤ 36 → (∀ i, i < xs.length → wv (xs.getD i 0) < B) → xs ≠ [] → Nm.pw 4096 ≤ Dn.tv B 0 (xs.map wv) → FromIs xs B w0 w' none [] 0 2
  | ok (r : Option Addr) (os : List Int) : 2 ≤ B → B ≤ 36 → (∀ i, i < xs.length → wv (xs.getD i 0) < B) → xs ≠ [] → Dn.tv B 0 (xs.map wv) < Nm.pw 4096 → Ans w0.heap.size w' r os (Dn.tv B 0 (xs.map wv)) → FromIs xs B w0 w' r os 0 0

def FromTold (xs : List Int) (B : Int) (w : World) (e : Ending) (w' : World) : Prop :=
  ∃ r os at_ E, e = .returned (.tuple #[.slice r (List.length os) (List.length os), .int .i64 at_, .int .i64 E]) ∧ FromIs xs B w w' r os at_ E ∧ Below w.heap.size w w'

set_option maxRecDepth 100000 in
set_option maxHeartbeats 4000000 in
theorem fromBase_any (s : ByteArray) (xs : List Int) (B : Int) (w : World) (hs : Str s xs) (hn : xs.length ≤ 140737488355328) (hB0 : -9223372036854775808 ≤ B) (hB1 : B ≤ 9223372036854775807) :
    Calls Tryd.prog 36 #[.string s, .int .i64 B] w fun e w' => FromTold xs B w e w' := by
  by_cases h1 : B < 2 ∨ 36 < B
  · have F : Hid (FromTold xs B w (.returned (.tuple #[.slice none 0 0, .int .i64 0, .int .i64 32])) w) := ⟨none, [], _, _, rfl, .base h1, Below.refl _ _⟩
    clear hs hn
    rcases h1 with h1 | h1
    · go_enter Tryd.func36, Tryd.ntmps36
      go_wp2_with fail
      go_ret3
      exact F.out
    · go_enter Tryd.func36, Tryd.ntmps36
      go_wp2_with fail
      go_ret3
      exact F.out
  have h2 : 2 ≤ B := by omega
  have h36 : B ≤ 36 := by omega
  by_cases h3 : xs = []
  · have F : Hid (FromTold xs B w (.returned (.tuple #[.slice none 0 0, .int .i64 0, .int .i64 30])) w) := ⟨none, [], _, _, rfl, .empty h2 h36 h3, Below.refl _ _⟩
    have hs0 : s = ⟨#[]⟩ := hs.inj (by rw [h3]; rfl)
    subst hs0
    clear hs hn h1 h3
    go_enter Tryd.func36, Tryd.ntmps36
    go_wp2_with fail
    go_ret3
    exact F.out
  have e1 : s.toList ≠ [] := by
    intro c
    apply h3
    rw [ByteArray.toList_eq] at c
    rw [← hs, c]
    rfl
  have e2 : (s.toList == []) = false := by rw [beq_eq_false_iff_ne]; exact e1
  have e3 : s.toList.isEmpty = false := by rw [List.isEmpty_eq_false_iff]; exact e1
  have WR := hid (wrong_any s xs xs.length B w hs rfl hn)
  have HS := hid hs
  have HN := hid hn
  have H3 := hid h3
  clear hs hn h1 h3
  go_enter Tryd.func36, Tryd.ntmps36
  go_wp2_with fail
  refine WR.out.mono ?_
  rintro e w' ⟨⟨r, rfl, k⟩, rfl⟩
  clear WR
  cases k with
  | here t a1 a2 a3 =>
    have F : Hid (FromTold xs B w' (.returned (.tuple #[.slice none 0 0, .int .i64 (t : Int), .int .i64 31])) w') := ⟨none, [], _, _, rfl, .digit t h2 h36 a1 a2 a3, Below.refl _ _⟩
    have ht : (0 : Int) ≤ (t : Int) := by omega
    clear a1 a2 a3
    go_wp2_with fail
    go_ret3
    exact F.out
  | none a1 =>
    have NA := hid (natural_any s xs B w' HS.out HN.out h2 h36 a1)
    have HA := hid a1
    clear a1
    go_wp2_with fail
    refine NA.out.mono ?_
    rintro e w1 ⟨h | h, d1⟩
    · obtain ⟨k1, r, os, rfl, A1⟩ := h
      have F : Hid (FromTold xs B w' (.returned (.tuple #[.slice r (List.length os) (List.length os), .int .i64 0, .int .i64 0])) w1) := ⟨r, os, _, _, rfl, .ok r os h2 h36 HA.out H3.out k1 A1, d1⟩
      clear k1 A1 d1 NA
      go_wp2_with fail
      go_ret3
      exact F.out
    · obtain ⟨k1, rfl⟩ := h
      have F : Hid (FromTold xs B w' (.returned (.tuple #[.slice none 0 0, .int .i64 0, .int .i64 2])) w1) := ⟨none, [], _, _, rfl, .big h2 h36 HA.out H3.out k1, d1⟩
      clear k1 d1 NA
      go_wp2_with fail
      go_ret3
      exact F.out
end Go.Proofs.YtbldddagddmbgaaDoor
