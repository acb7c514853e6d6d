/-
  Texts put together: FAll, NLimb, NSTrim, MulAddW.
-/
import Derived.Test.YtbdbpjghmejfjaaDoorRF
import Derived.Test.YtbdbpjghmejfjaaDoorNDigit
import Derived.Test.YtbdbpjghmejfjaaDoorRA
import Derived.Test.YtbdbpjghmejfjaaDoorNStr
import Derived.Test.YtbdbpjghmejfjaaDoorBare
namespace Go.Proofs.YtbdbpjghmejfjaaDoor
open Go Go.RowKit Go.Deep

namespace Fx
/-- The exact digits of a double, and their power. -/
noncomputable def X (d : Int) : List Int := xd (Ie.dm d) (Ie.de d)
noncomputable def P (d : Int) : Int := ed (Ie.dm d) (Ie.de d)
/-- What All answers. -/
noncomputable def aS (d : Int) : List Int := if Ie.fnt d = true then X d else []
noncomputable def aE (d : Int) : Int := if Ie.fnt d = true then P d else 0
def aN (d : Int) : Bool := Ie.fnt d && decide (9223372036854775808 ≤ d)
def aR (d : Int) : Int := if Ie.fnt d = true then 0 else 5

theorem X_ex {d : Int} (h : Ie.fnt d = true) : Ex (Ie.dm d) (Ie.de d) (X d) (P d) := ex_is (Ie.fdec d (of_decide_eq_true h)).1
theorem X_digs {d : Int} (h : Ie.fnt d = true) : Digs (X d) ∧ X d ≠ [] := (X_ex h).digs (Ie.fdec d (of_decide_eq_true h)).1
theorem X_zero {d : Int} (h : Ie.fnt d = true) (hz : Ie.dm d = 0) : X d = [48] ∧ P d = 0 := (X_ex h).zero hz
theorem X_room {d : Int} (h : Ie.fnt d = true) : -323 ≤ (X d).length + P d ∧ (X d).length + P d ≤ 309 ∧ -1074 ≤ P d ∧ (X d).length ≤ 1383 ∧ 1 ≤ (X d).length := by
  obtain ⟨m0, m1, e0, e1, _⟩ := Ie.fdec d (of_decide_eq_true h)
  have lo := (X_ex h).lo
  have l1 := List.length_pos_iff.2 (X_digs h).2
  rcases (show Ie.dm d = 0 ∨ 0 < Ie.dm d by omega) with c | c
  · obtain ⟨a, b⟩ := X_zero h c
    rw [a, b] at *
    simp
  · have r := (X_ex h).room c m1 e1
    omega
end Fx

def AllTold (d : Int) (w : World) (e : Ending) (w' : World) : Prop :=
  ∃ s, e = .returned (.tuple #[.agg #[.bool (Fx.aN d), .string s, .int .i64 (Fx.aE d)], .int .i64 (Fx.aR d)]) ∧ Str s (Fx.aS d) ∧ Below w.heap.size w w'

theorem and_sign (d : Int) (h0 : 0 ≤ d) (h1 : d < 18446744073709551616) : (bits .and .u64 d 9223372036854775808 != 0) = decide (9223372036854775808 ≤ d) := by
  rw [Ib.sign_and d h0 h1]
  rcases (show d < 9223372036854775808 ∨ 9223372036854775808 ≤ d by omega) with c | c
  · have e : d / 9223372036854775808 = 0 := by omega
    rw [e]
    simp
    omega
  · have e : d / 9223372036854775808 = 1 := by omega
    rw [e]
    simp [c]

set_option maxRecDepth 100000 in
set_option maxHeartbeats 2000000 in
theorem fall_any (d : Int) (w : World) (hT : Tab w) (h0 : 0 ≤ d) (h1 : d < 18446744073709551616) :
    Calls Tryd.prog 6 #[.int .u64 d] w fun e w' => AllTold d w e w' := by
  have FN := hid (fun wx : World => ffinite_any d wx h0 h1)
  have Z := FR3.new w (.bool false) (.string ⟨#[]⟩) (.int .i64 0)
  have ZB := alloc_b w (.cells #[.bool false, .string ⟨#[]⟩, .int .i64 0] 29)
  by_cases hf : Ie.fnt d = true
  · have G : Hid (∀ (w' : World) (s : ByteArray), Str s (Fx.X d) → Below w.heap.size w w' → AllTold d w (.returned (.tuple #[.agg #[.bool (decide (9223372036854775808 ≤ d)), .string s, .int .i64 (Fx.P d)], .int .i64 0])) w') := by
      intro w' s hs hB
      refine ⟨s, ?_, by rw [Fx.aS, if_pos hf]; exact hs, hB⟩
      rw [Fx.aN, Fx.aE, Fx.aR, if_pos hf, if_pos hf, hf, Bool.true_and]
    have EX : Hid (∀ wx : World, Tab wx → Calls Tryd.prog 17 #[.int .u64 d] wx fun e w' => ExTold d wx e w') := fun wx h => exact_any d wx h h0 h1 (of_decide_eq_true hf)
    have AS := and_sign d h0 h1
    have E1 := hid (EX.out _ (hT.below ZB))
    have HZ := hid (And.intro Z ZB)
    rw [hf] at FN
    clear Z ZB EX hT h0 h1 hf
    unfold ExTold at E1
    rw [← Fx.X, ← Fx.P] at E1
    generalize Fx.X d = X at *
    generalize Fx.P d = P at *
    generalize decide (9223372036854775808 ≤ d) = sn at *
    go_enter Tryd.func6, Tryd.ntmps6
    go_wp2_with fail
    refine (FN.out _).mono ?_
    rintro e wz ⟨rfl, hz⟩
    replace hz := hz.symm
    subst hz
    go_wp2_with fail
    refine E1.out.mono ?_
    rintro e w1 ⟨s, rfl, hs, hB⟩
    have Z1 := hid (HZ.out.1.below hB HZ.out.1.lt)
    have B1 := hid (HZ.out.2.trans (hB.mono HZ.out.2.size))
    have K := hid (G.out _ s hs (fset3_below (u0 := .bool sn) (u1 := .string s) (u2 := .int .i64 P) B1.out (Nat.le_refl _)))
    obtain ⟨⟨c0, c1, c2⟩, f0, f1, f2⟩ := Z1.out.cells
    clear hs hB HZ G E1 FN
    go_wp2_with fail
    (try simp only [Exit.inBlock, Exit.then])
    refine bodyPost_ret (fresults_row_tmp rfl _ _ w.heap.size 29 _ (0, 0) _ rfl (Z1.out.put _ _ _) Tryd.underlying29 rfl (by kernel_rfl)) rfl ?_
    exact K.out
  · have hf' : Ie.fnt d = false := by simpa using hf
    have G : Hid (∀ (w' : World), Below w.heap.size w w' → AllTold d w (.returned (.tuple #[.agg #[.bool false, .string ⟨#[]⟩, .int .i64 0], .int .i64 5])) w') := by
      intro w' hB
      refine ⟨⟨#[]⟩, ?_, by rw [Fx.aS, if_neg hf]; rfl, hB⟩
      rw [Fx.aN, Fx.aE, Fx.aR, if_neg hf, if_neg hf, hf', Bool.false_and]
    rw [hf'] at FN
    have HZ := hid (And.intro Z ZB)
    have K := hid (G.out _ ZB)
    obtain ⟨⟨c0, c1, c2⟩, f0, f1, f2⟩ := Z.cells
    clear Z ZB hT h0 h1 hf hf' G
    go_enter Tryd.func6, Tryd.ntmps6
    go_wp2_with fail
    refine (FN.out _).mono ?_
    rintro e wz ⟨rfl, hz⟩
    replace hz := hz.symm
    subst hz
    go_wp2_with fail
    (try simp only [Exit.inBlock, Exit.then])
    refine bodyPost_ret (fresults_row_tmp rfl _ _ w.heap.size 29 _ (0, 0) _ rfl HZ.out.1 Tryd.underlying29 rfl (by kernel_rfl)) rfl ?_
    exact K.out
end Go.Proofs.YtbdbpjghmejfjaaDoor

namespace Go.Proofs.YtbdbpjghmejfjaaDoor
open Go.RowKit Go.Deep

theorem bytes_cells {s : ByteArray} {xs : List Int} (hs : Str s xs) (w : World) (cap : Nat) (fr : Nat × Nat) (i : Nat) (hi : i < xs.length) : (w.drew.alloc (.cells (bytesRow s cap) 5 fr)).cell? ⟨w.heap.size, i, none⟩ = some (.int .u8 (xs.getD i 0)) := by
  have h1 := World.cell?_alloc_mark w.drew (bytesRow s cap) 5 fr i
  have hi2 : i < s.data.size := by have := hs.size; have e : s.size = s.data.size := rfl; omega
  rw [show w.drew.heap.size = w.heap.size from rfl, bytesRow_at s cap i hi2] at h1
  rw [h1, ← hs.at i hi2]
  rfl

theorem tv_take_succ (B : Int) (ys : List Int) (j : Nat) (hj : j < ys.length) : Dn.tv B 0 (ys.take (j + 1)) = Dn.tv B 0 (ys.take j) * B + ys.getD j 0 := by
  rw [List.take_add_one, List.getElem?_eq_getElem hj, Dn.tv_append]
  simp [Dn.tv, List.getD, hj]

set_option maxRecDepth 100000 in
set_option maxHeartbeats 1000000 in
theorem limb_any (s : ByteArray) (xs : List Int) (n W : Nat) (B : Int) (w : World) (hs : Str s xs) (hn : xs.length = n) (hnW : n ≤ W) (hW : W ≤ 63) (h2 : 2 ≤ B) (h36 : B ≤ 36) (hBW : B ^ W < 18446744073709551616) (hd : ∀ i, i < xs.length → wv (xs.getD i 0) < B) :
    Calls Tryd.prog 60 #[.string s, .int .u64 B] w fun e w' => e = .returned (.int .u64 (Dn.tv B 0 (xs.map wv))) ∧ Below w.heap.size w w' := by
  have CV := run_bytes_of_string (P := Tryd.prog) w 9 73 5 s Tryd.underlying9 Tryd.underlying73 Tryd.underlying5
  have hsz : s.size = n := by rw [hs.size, hn]
  rw [hsz] at CV
  obtain ⟨cap, hcap⟩ : ∃ cap, grownCap w n 0 5 = cap := ⟨_, rfl⟩
  rw [hcap] at CV
  have CE := hid (fun i hi => bytes_cells hs w cap ((bytesRow s cap).size, (bytesRow s cap).size + 1) i hi)
  have BW : Below w.heap.size w (w.drew.alloc (.cells (bytesRow s cap) 5 ((bytesRow s cap).size, (bytesRow s cap).size + 1))) := (below_drewN (Below.refl _ _) 1).alloc (Nat.le_refl _) _
  obtain ⟨w1, hw1⟩ : ∃ w1, w.drew.alloc (.cells (bytesRow s cap) 5 ((bytesRow s cap).size, (bytesRow s cap).size + 1)) = w1 := ⟨_, rfl⟩
  rw [hw1] at CV CE BW
  have HS := hid hs
  have HN := hid hn
  have HD := hid hd
  have D1 := hid BW
  have HB : ShutG (B ^ W < 18446744073709551616) := ⟨hBW⟩
  clear hs hn hd BW hw1 hcap hBW
  go_enter Tryd.func60, Tryd.ntmps60
  go_wp2_with fail
  go_loop [5, 7, 11] (fun a _ c => ∃ (j : Nat) (A : Int), a = .int .u64 A ∧ c = .int .i64 (j : Int) ∧ j ≤ n ∧ Hid (A = Dn.tv B 0 ((xs.map wv).take j))) (fun _ _ c => n - (intOf c).toNat)
  case atStart => exact ⟨0, 0, rfl, rfl, Nat.zero_le _, by simp [Hid, Dn.tv]⟩
  case round =>
    obtain ⟨j, A, rfl, rfl, hj, I⟩ := hrel
    have hn63 : (n : Int) ≤ 63 := by omega
    by_cases hlt : j < n
    · have hji : (j : Int) < (n : Int) := by omega
      obtain ⟨x, hx, X⟩ : ∃ x, w1.cell? ⟨w.heap.size, j, none⟩ = some (.int .u8 x) ∧ Hid (x = xs.getD j 0) := ⟨_, CE.out j (by have := HN.out; omega), rfl⟩
      have hxb := HS.out.atb j
      rw [← X.out] at hxb
      obtain ⟨v, V⟩ : ∃ v, Hid (wv x = v) := ⟨_, rfl⟩
      have WO := hid (worth_any x w1 hxb.1 hxb.2)
      rw [V.out] at WO
      have hv0 : 0 ≤ v := by have := (wv_bd x).1; have := V.out; omega
      have ST := tv_take_succ B (xs.map wv) j (by have := HN.out; simp; omega)
      have e0 : (xs.map wv).getD j 0 = v := by
        rw [← V.out, X.out]
        have : j < xs.length := by have := HN.out; omega
        simp [List.getD, this]
      rw [e0, ← I.out] at ST
      have dig : ∀ d ∈ (xs.map wv), 0 ≤ d ∧ d < B := by
        intro d hd
        obtain ⟨y, hy, rfl⟩ := List.mem_map.1 hd
        obtain ⟨i, hi, rfl⟩ := List.getElem_of_mem hy
        have := HD.out i hi
        simp only [List.getD, List.getElem?_eq_getElem hi, Option.getD_some] at this
        exact ⟨(wv_bd _).1, this⟩
      have hA0 : 0 ≤ A := by rw [I.out]; exact Dn.tv_nonneg (by omega) 0 _ (by omega) (fun d hd => (dig d (List.mem_of_mem_take hd)).1)
      have hlt2 : A * B + v < 18446744073709551616 := by
        rw [← ST]
        have h1 := Dn.tv_lt (show 0 < B by omega) ((xs.map wv).take (j + 1)) (fun d hd => dig d (List.mem_of_mem_take hd))
        have h3 := Pn.pow_mono (show 1 ≤ B by omega) (show ((xs.map wv).take (j + 1)).length ≤ W by simp; omega)
        have h4 := HB.out
        omega
      have hC0 : 0 ≤ A * B := Int.mul_nonneg hA0 (by omega)
      obtain ⟨C, HC⟩ : ∃ C, Hid (A * B = C) := ⟨_, rfl⟩
      rw [HC.out] at hlt2 hC0 ST
      have q1 : IntKind.u64.wrap (A * B) = C := by rw [HC.out, IntKind.wrap_u64]; omega
      have I2 := hid ST.symm
      clear I ST dig e0 hxb
      go_wp2_with fail
      refine WO.out.mono ?_
      rintro e w' ⟨rfl, rfl⟩
      clear WO
      go_wp2_with fail
      go_round
      case rel => exact ⟨j + 1, C + v, rfl, by go_num, by omega, I2.out⟩
      case measure => simp [intOf]; omega
    · obtain rfl : j = n := by omega
      have F : Hid (A = Dn.tv B 0 (xs.map wv)) := by
        have := I.out
        rw [List.take_of_length_le (by have := HN.out; simp; omega)] at this
        exact this
      clear I
      go_wp2_with fail
      go_ret
      exact ⟨by rw [← F.out]; rfl, D1.out⟩
end Go.Proofs.YtbdbpjghmejfjaaDoor

namespace Go.Proofs.YtbdbpjghmejfjaaDoor
open Go.RowKit Go.Deep

/-- s' is s without some zeros at its head, and opens with none. -/
def Bared (xs : List Int) (s' : ByteArray) (j : Nat) : Prop := Str s' (xs.drop j) ∧ j ≤ xs.length ∧ (∀ i, i < j → xs.getD i 0 = 48)

def STold (xs : List Int) (e : Ending) : Prop := ∃ s' j, e = .returned (.string s') ∧ Bared xs s' j ∧ (j < xs.length → xs.getD j 0 ≠ 48)

set_option maxRecDepth 100000 in
set_option maxHeartbeats 1000000 in
theorem strim1_any (s : ByteArray) (xs : List Int) (w : World) (hs : Str s xs) (hn1 : xs.length ≤ 140737488355328) :
    Calls Tryd.prog 67 #[.string s, .int .u8 48] w fun e w' => STold xs e ∧ w' = w := by
  have HS := hid hs
  have HN := hid hn1
  clear hs hn1
  go_enter Tryd.func67, Tryd.ntmps67
  go_wp2_with fail
  go_loop [0] (fun c => ∃ s' j, c = .string s' ∧ Hid (Bared xs s' j)) (fun c => match c with | .string s' => s'.size | _ => 0)
  case atStart => exact ⟨s, 0, rfl, HS.out, Nat.zero_le _, fun i hi => by omega⟩
  case round =>
    obtain ⟨s', j, rfl, I⟩ := hrel
    obtain ⟨m, HM⟩ : ∃ m, Hid (s'.size = m) := ⟨_, rfl⟩
    have hsz : s'.size = m := HM.out
    have hjm : Hid (j + m = xs.length) := by show _ = _; have := I.out.1.size; have := I.out.2.1; have := HM.out; simp at *; omega
    have hmb : (m : Int) ≤ 140737488355328 := by have := HN.out; have := hjm.out; omega
    by_cases h0 : m = 0
    · subst h0
      have F : Hid (STold xs (.returned (.string s'))) := ⟨s', j, rfl, I.out, fun h => by have := hjm.out; omega⟩
      clear I
      go_wp2_with fail
      go_ret
      exact ⟨F.out, rfl⟩
    · have hm : 0 < m := by omega
      have hmi : (0 : Int) < (m : Int) := by omega
      obtain ⟨x, X⟩ : ∃ x, Hid (xs.getD j 0 = x) := ⟨_, rfl⟩
      have hx : ∀ h : 0 < s'.size, ((s'[0]'h).toNat : Int) = x := fun h => by rw [I.out.1.at 0 h, ← X.out]; simp [List.getD]
      by_cases hd : x = 48
      · subst hd
        have F : Hid (Bared xs (s'.extract 1 s'.size) (j + 1)) := by
          refine ⟨?_, by have := hjm.out; omega, fun i hi => ?_⟩
          · have := I.out.1.extract 1 s'.size
            rw [List.drop_drop, List.take_of_length_le (by have := hjm.out; have := HM.out; simp; omega)] at this
            exact this
          · by_cases e : i = j
            · subst e; exact X.out
            · exact I.out.2.2 i (by omega)
        rw [hsz] at F
        have SZ : Hid ((s'.extract 1 m).size < s'.size) := by
          show _ < _
          have e1 := F.out.1.size
          have e2 := HM.out
          have e3 := hjm.out
          simp only [List.length_drop] at e1
          omega
        clear I
        go_wp2_with fail
        go_round
        case rel => exact ⟨_, _, rfl, F.out⟩
        case measure => exact SZ.out
      · have hd2 : (x == 48) = false := by rw [beq_eq_false_iff_ne]; exact hd
        have F : Hid (STold xs (.returned (.string s'))) := ⟨s', j, rfl, I.out, fun _ => by rw [X.out]; exact hd⟩
        clear I
        go_wp2_with fail
        go_ret
        exact ⟨F.out, rfl⟩

set_option maxRecDepth 100000 in
theorem strim_any (s : ByteArray) (xs : List Int) (w : World) (hs : Str s xs) (hn1 : xs.length ≤ 140737488355328) :
    Calls Tryd.prog 57 #[.string s, .string ⟨#[48]⟩] w fun e w' => STold xs e ∧ w' = w := by
  have T := hid (strim1_any s xs w hs hn1)
  by_cases h : xs = []
  · have F : Hid (STold xs (.returned (.string s))) := ⟨s, 0, rfl, ⟨by simpa using hs, Nat.zero_le _, fun i hi => by omega⟩, fun hlt => by rw [h] at hlt; simp at hlt⟩
    have hs0 : s = ⟨#[]⟩ := hs.inj (by rw [h]; rfl)
    subst hs0
    clear hs hn1 h
    go_enter Tryd.func57, Tryd.ntmps57
    go_wp2_with fail
    go_ret
    exact ⟨F.out, rfl⟩
  · have e0 := hs.eq (t := ⟨#[]⟩) (ys := []) rfl
    rw [decide_eq_false h] at e0
    have e1 : s.toList ≠ [] := by
      intro c
      apply h
      rw [ByteArray.toList_eq] at c
      rw [← hs, c]
      rfl
    have e2 : (s.toList == []) = false := by rw [beq_eq_false_iff_ne]; exact e1
    have e3 : s.toList.isEmpty = false := by rw [List.isEmpty_eq_false_iff]; exact e1
    clear hs hn1 h
    go_enter Tryd.func57, Tryd.ntmps57
    go_wp2_with fail
    refine T.out.mono ?_
    rintro e w' ⟨h1, rfl⟩
    obtain ⟨s', j, rfl, h2⟩ := h1
    have F : Hid (STold xs (.returned (.string s'))) := ⟨s', j, rfl, h2⟩
    clear h2 T
    go_wp2_with fail
    go_ret
    exact ⟨F.out, rfl⟩
end Go.Proofs.YtbdbpjghmejfjaaDoor

namespace Go.Proofs.YtbdbpjghmejfjaaDoor
open Go.RowKit Go.Deep

/-- The limbs of one round. -/
theorem ma_step {x m c p l h s k : Int} (hp : l + 18446744073709551616 * h = p) (hl : 0 ≤ l ∧ l < 18446744073709551616) (hh : 0 ≤ h) (hx : 0 ≤ x ∧ x < 18446744073709551616) (hm : 0 ≤ m ∧ m < 18446744073709551616) (hxm : p = x * m)
    (hc : 0 ≤ c ∧ c < 18446744073709551616) (e1 : s = (l + c + 0) % 18446744073709551616) (e2 : k = (l + c + 0) / 18446744073709551616) :
    (0 ≤ s ∧ s < 18446744073709551616) ∧ (0 ≤ h + k ∧ h + k < 18446744073709551616) ∧ s + 18446744073709551616 * (h + k) = x * m + c := by
  have hb : x * m ≤ 18446744073709551615 * 18446744073709551615 := Int.mul_le_mul (by omega) (by omega) (by omega) (by omega)
  rw [← hxm] at hb ⊢
  clear hxm
  omega

set_option maxRecDepth 100000 in
set_option maxHeartbeats 1000000 in
/-- The loop of MulAdd, whatever the size of the answer. -/
theorem mulAdd_any (p : Option Addr) (n cap : Nat) (zs : List Int) (m c : Int) (w : World) (ha : Arg w p n cap zs) (tz : Nm.tsize zs ≤ 4096) (hm0 : 0 ≤ m) (hm1 : m < 18446744073709551616) (hc0 : 0 ≤ c) (hc1 : c < 18446744073709551616) :
    Calls Tryd.prog 59 #[.slice p n cap, .int .u64 m, .int .u64 c] w fun e w' =>
      (Nm.val zs * m + c < Nm.pw 4096 → ∃ r os, e = .returned (.tuple #[.slice r (List.length os) (List.length os), .int .i64 0]) ∧ Ans w.heap.size w' r os (Nm.val zs * m + c)) ∧
      (Nm.pw 4096 ≤ Nm.val zs * m + c → e = .returned (.tuple #[.slice none 0 0, .int .i64 2])) ∧ Below w.heap.size w w' := by
  obtain ⟨a1, a2, a3, a4, a5⟩ := ha
  obtain ⟨N, HN⟩ : ∃ N, Hid (Nm.tsize zs = N) := ⟨_, rfl⟩
  have T1 := limited_ok p n cap zs w a1 a2 (by omega) a4 tz
  rw [HN.out] at T1
  have hN : N ≤ 4096 := by rw [← HN.out]; exact tz
  have L1 := hid ((Nm.trim_length zs).trans HN.out)
  have hmk := make64 (N + 1) (by omega) w
  have em : ((N + 1 : Nat) : Int) = (N : Int) + 1 := by omega
  rw [em] at hmk
  clear em
  have ho : Own (w.alloc (.cells (madeCells #[.int .u64 0] (N + 1)) 24)) w.heap.size (List.replicate (N + 1) 0) := by
    rw [made_zero]; exact Own.alloc w _
  have hb0 : Below w.heap.size w (w.alloc (.cells (madeCells #[.int .u64 0] (N + 1)) 24)) := (Below.refl _ _).alloc (Nat.le_refl _) _
  obtain ⟨W0, hW0⟩ : ∃ W0, w.alloc (.cells (madeCells #[.int .u64 0] (N + 1)) 24) = W0 := ⟨_, rfl⟩
  have HB0 : Hid (Below w.heap.size w W0) := by rw [← hW0]; exact hb0
  have I0 : MaInv w.heap.size (N + 1) W0 (Nm.val ((Nm.trim zs).take 0) * m + c) 0 c (List.replicate (N + 1) 0) W0 := by
    rw [← hW0]
    exact ⟨⟨ho, by simp, Nm.Limbs.replicate _, by simp [Nm.val_replicate, Nm.val, Nm.pw], Below.refl _ _, rfl⟩, ⟨hc0, hc1⟩, fun i _ => getD_replicate _ _⟩
  have A5 := hid a5.trim
  have A4 := hid a4.trim
  have V := hid (Nm.val_trim zs)
  have HT := hid T1
  clear T1 tz ho hb0 a4 a5
  rw [hW0] at hmk
  clear hW0
  have fin : ∀ (os : List Int) (cc : Int) (wr : World), MaInv w.heap.size (N + 1) W0 (Nm.val (Nm.trim zs) * m + c) N cc os wr → Own (wr.setCell ⟨w.heap.size, N, none⟩ (.int .u64 cc)) w.heap.size (os.set N cc) ∧ (os.set N cc).length = N + 1 ∧ Nm.Limbs (os.set N cc) ∧ Nm.val (os.set N cc) = Nm.val zs * m + c ∧ Below w.heap.size w (wr.setCell ⟨w.heap.size, N, none⟩ (.int .u64 cc)) := by
    intro os cc wr I
    obtain ⟨⟨i1, i2, i3, i4, i5, i6⟩, i7, i8⟩ := I
    refine ⟨i1.set _ _, by simpa using i2, i3.set _ i7.1 i7.2, ?_, HB0.out.trans (i5.setCell (Nat.le_refl _) _)⟩
    rw [Nm.val_set _ _ _ (by omega), i8 N (Nat.le_refl _), Int.sub_zero, i4, V.out]
  have FIN := hid fin
  clear fin
  by_cases h0 : N = 0
  · subst h0
    have hx : Nm.trim zs = [] := List.eq_nil_of_length_eq_zero L1.out
    rw [show (Nm.trim zs).take 0 = Nm.trim zs by rw [hx]; rfl] at I0
    have F := FIN.out _ _ _ I0
    obtain ⟨y, hy⟩ : ∃ y, W0.cell? ⟨w.heap.size, 0, none⟩ = some (.int .u64 y) := ⟨_, I0.1.1.cell 0 (by simp)⟩
    have hfr := I0.1.1.free 0
    have HF := hid F
    clear F I0 hx
    have hmk1 : (Instr.makeSlice 34 (.int .i64 1) (.int .i64 1)).run Tryd.prog w = .ok (.slice (some ⟨w.heap.size, 0, none⟩) 1 1) W0 := hmk
    clear hmk
    go_enter Tryd.func59, Tryd.ntmps59
    go_wp2_with fail
    refine HT.out.mono ?_
    rintro e w' ⟨rfl, rfl⟩
    go_wp2_with fail
    refine wp_loop_rounds 1 ?_
    rw [rounds_succ]
    go_wp2_with fail
    obtain ⟨f1, f2, f3, f4, f5⟩ := HF.out
    by_cases hbig : Nm.val zs * m + c < Nm.pw 4096
    · refine (limited_own w'.heap.size (0 + 1) _ _ f2 (by omega) f1 f3 w'.heap.size (Nat.le_refl _) (by rw [f4]; exact hbig)).mono ?_
      rintro e w3 ⟨r, xs, rfl, hans, rfl⟩
      rw [f4] at hans
      have HA := hid hans
      have HB := hid hbig
      clear hans f1 f2 f3 f4 f5 hbig
      go_wp2_with fail
      go_ret2
      exact ⟨fun _ => ⟨r, xs, rfl, HA.out⟩, fun h => by have := HB.out; omega, HF.out.2.2.2.2⟩
    · refine (limited_own_big w'.heap.size (0 + 1) _ _ f2 (by omega) f1 f3 (by rw [f4]; omega)).mono ?_
      rintro e w3 ⟨rfl, rfl⟩
      have HB := hid hbig
      clear f1 f2 f3 f4 f5 hbig
      go_wp2_with fail
      go_ret2
      exact ⟨fun h => by have := HB.out; omega, fun _ => rfl, HF.out.2.2.2.2⟩
  · obtain ⟨b, off, rfl, hbw, HC⟩ := A4.out.at (by rw [L1.out]; omega)
    go_enter Tryd.func59, Tryd.ntmps59
    go_wp2_with fail
    refine HT.out.mono ?_
    rintro e w' ⟨rfl, rfl⟩
    go_wp2_with fail
    go_loopw [10, 31] (fun a i wr => ∃ (j : Nat) (cc : Int) (os : List Int), j ≤ N ∧ i = .int .i64 j ∧ a = .int .u64 cc ∧ MaInv w'.heap.size (N + 1) W0 (Nm.val ((Nm.trim zs).take j) * m + c) j cc os wr) (fun _ i _ => N - (intOf i).toNat)
    case atStart => exact ⟨0, c, _, Nat.zero_le _, rfl, rfl, I0⟩
    case round =>
      clear I0 hmk
      obtain ⟨j, cc, os, hj, rfl, rfl, I⟩ := hrel
      by_cases hlt : j < N
      · obtain ⟨x, hx, X⟩ : ∃ x, wr.cell? ⟨b, off + j, none⟩ = some (.int .u64 x) ∧ Hid (x = (Nm.trim zs).getD j 0) :=
          ⟨_, ((HB0.out.trans I.1.2.2.2.2.1).cell (p := ⟨b, off + j, none⟩) hbw).trans (HC.out j (by rw [L1.out]; exact hlt)), rfl⟩
        have hx0 := A5.out.at j
        rw [← X.out] at hx0
        obtain ⟨hx0, hx1⟩ := hx0
        obtain ⟨y, hyc⟩ : ∃ y, wr.cell? ⟨w'.heap.size, j, none⟩ = some (.int .u64 y) := ⟨_, I.1.1.cell j (by have := I.1.2.1; omega)⟩
        have hfr := I.1.1.free j
        obtain ⟨hcc0, hcc1⟩ := I.2.1
        go_wp2_with fail
        refine (mul64 x m hx0 hx1 hm0 hm1 _).mono ?_
        rintro e w2 ⟨h, l, rfl, ⟨hh0, hh1, hl0, hl1⟩, P1, _, rfl⟩
        obtain ⟨s1, S1⟩ : ∃ s, Hid (s = (l + cc + 0) % 18446744073709551616) := ⟨_, rfl⟩
        obtain ⟨k1, K1⟩ : ∃ c, Hid (c = (l + cc + 0) / 18446744073709551616) := ⟨_, rfl⟩
        have ST := hid (ma_step P1.out ⟨hl0, hl1⟩ hh0 ⟨hx0, hx1⟩ ⟨hm0, hm1⟩ rfl ⟨hcc0, hcc1⟩ S1.out K1.out)
        have hk1 : 0 ≤ k1 := by have := K1.out; omega
        have hkk : h + k1 < 18446744073709551616 := ST.out.2.1.2
        go_wp2_with (simp only [add64' l cc 0 s1 k1 hl0 hcc0 (Int.le_refl 0) (by decide) S1.out K1.out])
        go_roundw
        case rel =>
          have hst := I.step (by omega) (x := x * m) (s := s1) (c' := h + k1) ST.out.1 ST.out.2.1 ST.out.2.2
          refine ⟨j + 1, h + k1, os.set j s1, by omega, by go_num, rfl, ?_⟩
          have e : Nm.val ((Nm.trim zs).take (j + 1)) * m + c = Nm.val ((Nm.trim zs).take j) * m + c + Nm.pw j * (x * m) := by
            rw [Nm.val_take_succ _ j (by rw [L1.out]; exact hlt), ← X.out, Int.add_mul, Int.mul_assoc]
            omega
          rw [e]
          exact hst
        case measure => simp [intOf]; omega
      · have hjN : j = N := by omega
        subst hjN
        rw [List.take_of_length_le (by rw [L1.out]; omega)] at I
        have F := FIN.out _ _ _ I
        obtain ⟨y, hy⟩ : ∃ y, wr.cell? ⟨w'.heap.size, j, none⟩ = some (.int .u64 y) := ⟨_, I.1.1.cell j (by have := I.1.2.1; omega)⟩
        have hfr := I.1.1.free j
        have HF := hid F
        clear F I
        go_wp2_with fail
        obtain ⟨f1, f2, f3, f4, f5⟩ := HF.out
        by_cases hbig : Nm.val zs * m + c < Nm.pw 4096
        · refine (limited_own w'.heap.size (j + 1) _ _ f2 (by omega) f1 f3 w'.heap.size (Nat.le_refl _) (by rw [f4]; exact hbig)).mono ?_
          rintro e w3 ⟨r, xs, rfl, hans, rfl⟩
          rw [f4] at hans
          have HA := hid hans
          have HB := hid hbig
          clear hans f1 f2 f3 f4 f5 hbig
          go_wp2_with fail
          go_ret2
          exact ⟨fun _ => ⟨r, xs, rfl, HA.out⟩, fun h => by have := HB.out; omega, HF.out.2.2.2.2⟩
        · refine (limited_own_big w'.heap.size (j + 1) _ _ f2 (by omega) f1 f3 (by rw [f4]; omega)).mono ?_
          rintro e w3 ⟨rfl, rfl⟩
          have HB := hid hbig
          clear f1 f2 f3 f4 f5 hbig
          go_wp2_with fail
          go_ret2
          exact ⟨fun h => by have := HB.out; omega, fun _ => rfl, HF.out.2.2.2.2⟩

/-- Of an operand that is too big. -/
theorem mulAdd_big (p : Option Addr) (n cap : Nat) (zs : List Int) (m c : Int) (w : World) (ha : Arg w p n cap zs) (tz : 4096 < Nm.tsize zs) :
    Calls Tryd.prog 59 #[.slice p n cap, .int .u64 m, .int .u64 c] w fun e w' => e = .returned (.tuple #[.slice none 0 0, .int .i64 2]) ∧ w' = w := by
  obtain ⟨a1, a2, a3, a4, a5⟩ := ha
  have HT := hid (limited_big p n cap zs w a1 a2 (by omega) a4 tz)
  go_enter Tryd.func59, Tryd.ntmps59
  go_wp2_with fail
  refine HT.out.mono ?_
  rintro e w' ⟨rfl, rfl⟩
  go_wp2_with fail
  go_ret2
  exact ⟨rfl, rfl⟩
end Go.Proofs.YtbdbpjghmejfjaaDoor
