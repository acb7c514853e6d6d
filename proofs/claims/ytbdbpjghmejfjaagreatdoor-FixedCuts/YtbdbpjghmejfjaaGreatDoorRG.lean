/-
  Texts put together: FAll, FClosed, NClone, NRound, FKp, FRep, FKept.
-/
import Derived.Test.YtbdbpjghmejfjaaGreatDoorRF
import Derived.Test.YtbdbpjghmejfjaaGreatDoorNStr
import Derived.Shelf.Pu.Clone
import Derived.Test.YtbdbpjghmejfjaaGreatDoorNUpward
import Derived.Test.YtbdbpjghmejfjaaGreatDoorNLimb
import Derived.Test.YtbdbpjghmejfjaaGreatDoorSmallA
import Derived.OwnWalk
import Derived.Test.YtbdbpjghmejfjaaGreatDoorRA
import Derived.Shelf.Strings.Repeat
import Derived.Laws.Concat
namespace Go.Proofs.YtbdbpjghmejfjaaGreatDoor
open Go Go.RowKit Go.Deep

namespace Fx
/-- The exact digits of a double, and their power. -/
noncomputable def X (d : Int) : List Int := xd (Ie.dm d) (Ie.de d)
noncomputable def P (d : Int) : Int := ed (Ie.dm d) (Ie.de d)
/-- What All answers. -/
noncomputable def aS (d : Int) : List Int := if Ie.fnt d = true then X d else []
noncomputable def aE (d : Int) : Int := if Ie.fnt d = true then P d else 0
def aN (d : Int) : Bool := Ie.fnt d && decide (9223372036854775808 ≤ d)
def aR (d : Int) : Int := if Ie.fnt d = true then 0 else 5

theorem X_ex {d : Int} (h : Ie.fnt d = true) : Ex (Ie.dm d) (Ie.de d) (X d) (P d) := ex_is (Ie.fdec d (of_decide_eq_true h)).1
theorem X_digs {d : Int} (h : Ie.fnt d = true) : Digs (X d) ∧ X d ≠ [] := (X_ex h).digs (Ie.fdec d (of_decide_eq_true h)).1
theorem X_zero {d : Int} (h : Ie.fnt d = true) (hz : Ie.dm d = 0) : X d = [48] ∧ P d = 0 := (X_ex h).zero hz
theorem X_room {d : Int} (h : Ie.fnt d = true) : -323 ≤ (X d).length + P d ∧ (X d).length + P d ≤ 309 ∧ -1074 ≤ P d ∧ (X d).length ≤ 1383 ∧ 1 ≤ (X d).length := by
  obtain ⟨m0, m1, e0, e1, _⟩ := Ie.fdec d (of_decide_eq_true h)
  have lo := (X_ex h).lo
  have l1 := List.length_pos_iff.2 (X_digs h).2
  rcases (show Ie.dm d = 0 ∨ 0 < Ie.dm d by omega) with c | c
  · obtain ⟨a, b⟩ := X_zero h c
    rw [a, b] at *
    simp
  · have r := (X_ex h).room c m1 e1
    omega
end Fx

def AllTold (d : Int) (w : World) (e : Ending) (w' : World) : Prop :=
  ∃ s, e = .returned (.tuple #[.agg #[.bool (Fx.aN d), .string s, .int .i64 (Fx.aE d)], .int .i64 (Fx.aR d)]) ∧ Str s (Fx.aS d) ∧ Below w.heap.size w w'

theorem and_sign (d : Int) (h0 : 0 ≤ d) (h1 : d < 18446744073709551616) : (bits .and .u64 d 9223372036854775808 != 0) = decide (9223372036854775808 ≤ d) := by
  rw [Ib.sign_and d h0 h1]
  rcases (show d < 9223372036854775808 ∨ 9223372036854775808 ≤ d by omega) with c | c
  · have e : d / 9223372036854775808 = 0 := by omega
    rw [e]
    simp
    omega
  · have e : d / 9223372036854775808 = 1 := by omega
    rw [e]
    simp [c]

set_option maxRecDepth 100000 in
set_option maxHeartbeats 2000000 in
theorem fall_any (d : Int) (w : World) (hT : Tab w) (h0 : 0 ≤ d) (h1 : d < 18446744073709551616) :
    Calls Tryz.prog 21 #[.int .u64 d] w fun e w' => AllTold d w e w' := by
  have FN := hid (fun wx : World => ffinite_any d wx h0 h1)
  have Z := FR3.new w (.bool false) (.string ⟨#[]⟩) (.int .i64 0)
  have ZB := alloc_b w (.cells #[.bool false, .string ⟨#[]⟩, .int .i64 0] 48)
  by_cases hf : Ie.fnt d = true
  · have G : Hid (∀ (w' : World) (s : ByteArray), Str s (Fx.X d) → Below w.heap.size w w' → AllTold d w (.returned (.tuple #[.agg #[.bool (decide (9223372036854775808 ≤ d)), .string s, .int .i64 (Fx.P d)], .int .i64 0])) w') := by
      intro w' s hs hB
      refine ⟨s, ?_, by rw [Fx.aS, if_pos hf]; exact hs, hB⟩
      rw [Fx.aN, Fx.aE, Fx.aR, if_pos hf, if_pos hf, hf, Bool.true_and]
    have EX : Hid (∀ wx : World, Tab wx → Calls Tryz.prog 26 #[.int .u64 d] wx fun e w' => ExTold d wx e w') := fun wx h => exact_any d wx h h0 h1 (of_decide_eq_true hf)
    have AS := and_sign d h0 h1
    have E1 := hid (EX.out _ (hT.below ZB))
    have HZ := hid (And.intro Z ZB)
    rw [hf] at FN
    clear Z ZB EX hT h0 h1 hf
    unfold ExTold at E1
    rw [← Fx.X, ← Fx.P] at E1
    generalize Fx.X d = X at *
    generalize Fx.P d = P at *
    generalize decide (9223372036854775808 ≤ d) = sn at *
    go_enter Tryz.func21, Tryz.ntmps21
    go_wp2_with fail
    refine (FN.out _).mono ?_
    rintro e wz ⟨rfl, hz⟩
    replace hz := hz.symm
    subst hz
    go_wp2_with fail
    refine E1.out.mono ?_
    rintro e w1 ⟨s, rfl, hs, hB⟩
    have Z1 := hid (HZ.out.1.below hB HZ.out.1.lt)
    have B1 := hid (HZ.out.2.trans (hB.mono HZ.out.2.size))
    have K := hid (G.out _ s hs (fset3_below (u0 := .bool sn) (u1 := .string s) (u2 := .int .i64 P) B1.out (Nat.le_refl _)))
    obtain ⟨⟨c0, c1, c2⟩, f0, f1, f2⟩ := Z1.out.cells
    clear hs hB HZ G E1 FN
    go_wp2_with fail
    (try simp only [Exit.inBlock, Exit.then])
    refine bodyPost_ret (fresults_row_tmp rfl _ _ w.heap.size 48 _ (0, 0) _ rfl (Z1.out.put _ _ _) Tryz.underlying48 rfl (by kernel_rfl)) rfl ?_
    exact K.out
  · have hf' : Ie.fnt d = false := by simpa using hf
    have G : Hid (∀ (w' : World), Below w.heap.size w w' → AllTold d w (.returned (.tuple #[.agg #[.bool false, .string ⟨#[]⟩, .int .i64 0], .int .i64 5])) w') := by
      intro w' hB
      refine ⟨⟨#[]⟩, ?_, by rw [Fx.aS, if_neg hf]; rfl, hB⟩
      rw [Fx.aN, Fx.aE, Fx.aR, if_neg hf, if_neg hf, hf', Bool.false_and]
    rw [hf'] at FN
    have HZ := hid (And.intro Z ZB)
    have K := hid (G.out _ ZB)
    obtain ⟨⟨c0, c1, c2⟩, f0, f1, f2⟩ := Z.cells
    clear Z ZB hT h0 h1 hf hf' G
    go_enter Tryz.func21, Tryz.ntmps21
    go_wp2_with fail
    refine (FN.out _).mono ?_
    rintro e wz ⟨rfl, hz⟩
    replace hz := hz.symm
    subst hz
    go_wp2_with fail
    (try simp only [Exit.inBlock, Exit.then])
    refine bodyPost_ret (fresults_row_tmp rfl _ _ w.heap.size 48 _ (0, 0) _ rfl HZ.out.1 Tryz.underlying48 rfl (by kernel_rfl)) rfl ?_
    exact K.out
end Go.Proofs.YtbdbpjghmejfjaaGreatDoor

namespace Go.Proofs.YtbdbpjghmejfjaaGreatDoor
open Go Go.RowKit Go.Deep
namespace Fx

theorem X_of {d : Int} {xs : List Int} {E : Int} (m0 : 0 ≤ Ie.dm d) (h : Ex (Ie.dm d) (Ie.de d) xs E) : X d = xs ∧ P d = E := by
  obtain ⟨a, b⟩ := h.is m0
  exact ⟨a.symm, b.symm⟩

theorem dig_c {T : Int} {xs : List Int} (hd : Digs xs) (hv : dv xs = T) (hh : xs.getD 0 0 ≠ 48) (hn : xs ≠ []) (hl : xs.length ≤ 3000) : ∃ s, DigT T s xs := by
  refine ⟨⟨(xs.map (fun x => UInt8.ofNat x.toNat)).toArray⟩, ?_, hd, hv, hh, hn, hl⟩
  unfold Str
  simp only [List.map_map]
  conv => rhs; rw [← List.map_id xs]
  apply List.map_congr_left
  intro x hx
  have := hd x hx
  simp
  omega

theorem c125 : X 4593671619917905920 = [49, 50, 53] ∧ P 4593671619917905920 = -3 := by
  obtain ⟨s, D⟩ := dig_c (T := 1 * 5 ^ 3) (xs := [49, 50, 53]) (fun d h => by simp at h; omega) (by decide) (by decide) (by decide) (by decide)
  have m : Ie.dm 4593671619917905920 = 4503599627370496 := by decide
  have e : Ie.de 4593671619917905920 = -55 := by decide
  refine X_of (by rw [m]; omega) ?_
  rw [m, e]
  exact ex_odd (t := 52) (q := 1) (n := 3) (by decide) (by omega) (by decide) (by omega) (by decide) D

theorem c995 : X 4636702106982547456 = [57, 57, 53] ∧ P 4636702106982547456 = -1 := by
  obtain ⟨s, D⟩ := dig_c (T := 199 * 5 ^ 1) (xs := [57, 57, 53]) (fun d h => by simp at h; omega) (by decide) (by decide) (by decide) (by decide)
  have m : Ie.dm 4636702106982547456 = 7001690045677568 := by decide
  have e : Ie.de 4636702106982547456 = -46 := by decide
  refine X_of (by rw [m]; omega) ?_
  rw [m, e]
  exact ex_odd (t := 45) (q := 199) (n := 1) (by decide) (by omega) (by decide) (by omega) (by decide) D

theorem c9995 : X 4652002910794678272 = [57, 57, 57, 53] ∧ P 4652002910794678272 = -1 := by
  obtain ⟨s, D⟩ := dig_c (T := 1999 * 5 ^ 1) (xs := [57, 57, 57, 53]) (fun d h => by simp at h; omega) (by decide) (by decide) (by decide) (by decide)
  have m : Ie.dm 4652002910794678272 = 8791694975696896 := by decide
  have e : Ie.de 4652002910794678272 = -43 := by decide
  refine X_of (by rw [m]; omega) ?_
  rw [m, e]
  exact ex_odd (t := 42) (q := 1999) (n := 1) (by decide) (by omega) (by decide) (by omega) (by decide) D

theorem c85 : X 4620974692658839552 = [56, 53] ∧ P 4620974692658839552 = -1 := by
  obtain ⟨s, D⟩ := dig_c (T := 17 * 5 ^ 1) (xs := [56, 53]) (fun d h => by simp at h; omega) (by decide) (by decide) (by decide) (by decide)
  have m : Ie.dm 4620974692658839552 = 4785074604081152 := by decide
  have e : Ie.de 4620974692658839552 = -49 := by decide
  refine X_of (by rw [m]; omega) ?_
  rw [m, e]
  exact ex_odd (t := 48) (q := 17) (n := 1) (by decide) (by omega) (by decide) (by omega) (by decide) D

theorem c1200 : X 13876364508114452480 = [49, 50] ∧ P 13876364508114452480 = 2 := by
  obtain ⟨s, D⟩ := dig_c (T := 75 * 2 ^ 4) (xs := [49, 50, 48, 48]) (fun d h => by simp at h; omega) (by decide) (by decide) (by decide) (by decide)
  have m : Ie.dm 13876364508114452480 = 5277655813324800 := by decide
  have e : Ie.de 13876364508114452480 = -42 := by decide
  refine X_of (by rw [m]; omega) ?_
  rw [m, e]
  exact ex_whole (t := 46) (q := 75) (n := 4) (k := 2) (xs := [49, 50, 48, 48]) (by decide) (by omega) (by omega) (by decide) D (by decide) (fun i h1 h2 => by
    match i, h1, h2 with
    | 2, _, _ => rfl
    | 3, _, _ => rfl
    | i + 4, _, h2 => simp at h2; omega) (fun _ => by decide)
end Fx
end Go.Proofs.YtbdbpjghmejfjaaGreatDoor

namespace Go.Proofs.YtbdbpjghmejfjaaGreatDoor
open Go.RowKit Go.Deep Go.Shelf

def cloneRen : Go.Shelf.Ren := ⟨fun _ => 100, fun t => if t = 37 then 70 else if t = 47 then 114 else if t = 5 then 5 else if t = 9 then 9 else if t = 3 then 3 else t, fun g => g⟩
theorem cloneLays : LaysPu.n25 Tryz.prog cloneRen where
  mixed := by kernel_rfl
  f25 := by kernel_rfl
  t0 := by kernel_rfl
  a0 := fun _ => by kernel_rfl
  z0 := fun _ => by kernel_rfl
  v0 := fun _ => by kernel_rfl
  i0 := by kernel_rfl
  t3 := by kernel_rfl
  a3 := fun _ => by kernel_rfl
  z3 := fun _ => by kernel_rfl
  v3 := fun _ => by kernel_rfl
  i3 := by kernel_rfl
  t4 := by kernel_rfl
  a4 := fun _ => by kernel_rfl
  z4 := fun _ => by kernel_rfl
  v4 := fun _ => by kernel_rfl
  i4 := by kernel_rfl
  t5 := by kernel_rfl
  a5 := fun _ => by kernel_rfl
  z5 := fun _ => by kernel_rfl
  v5 := fun _ => by kernel_rfl
  i5 := by kernel_rfl
  t9 := by kernel_rfl
  a9 := fun _ => by kernel_rfl
  z9 := fun _ => by kernel_rfl
  v9 := fun _ => by kernel_rfl
  i9 := by kernel_rfl
  t37 := by kernel_rfl
  a37 := fun _ => by kernel_rfl
  z37 := fun _ => by kernel_rfl
  v37 := fun _ => by kernel_rfl
  i37 := by kernel_rfl
  t47 := by kernel_rfl
  a47 := fun _ => by kernel_rfl
  z47 := fun _ => by kernel_rfl
  v47 := fun _ => by kernel_rfl
  i47 := by kernel_rfl

theorem clone_any (s : ByteArray) (w : World) (hs : s.size ≤ 140737488355328) : Calls Tryz.prog 77 #[.string s] w fun e w' => e = .returned (.string s) ∧ Below w.heap.size w w' := by
  have C : Hid (Calls Tryz.prog 100 #[.string s] w fun e w' => e = .returned (.string s) ∧ Below w.heap.size w w') := AnyPu.stringslite_Clone cloneLays s w (by omega)
  go_enter Tryz.func77, Tryz.ntmps77
  go_wp2_with fail
  refine C.out.mono ?_
  rintro e w1 ⟨rfl, d1⟩
  have D := hid d1
  clear d1
  go_wp2_with fail
  go_ret
  exact ⟨rfl, D.out⟩
end Go.Proofs.YtbdbpjghmejfjaaGreatDoor

namespace Go.Proofs.YtbdbpjghmejfjaaGreatDoor
open Go.RowKit Go.Deep

/-- The rounded row. -/
def Rounded (xs ds : List Int) (k : Nat) (more c : Bool) : Prop :=
  Digs ds ∧ ds.length = k ∧ ∃ u, UpIs (xs.take k) (xs.drop k) more u ∧ dv ds + (if c then 10 ^ k else 0) = dv (xs.take k) + (if u then 1 else 0)

def RoundTold (s : ByteArray) (xs : List Int) (keep : Int) (more : Bool) (e : Ending) : Prop :=
  ((xs.length : Int) ≤ keep → e = .returned (.tuple #[.string s, .bool false, .int .i64 0])) ∧
  (keep < (xs.length : Int) → ∃ s' ds c, e = .returned (.tuple #[.string s', .bool c, .int .i64 0]) ∧ Str s' ds ∧ Rounded xs ds keep.toNat more c)



theorem bytes_own {s : ByteArray} {xs : List Int} (hs : Str s xs) (w : World) (cap : Nat) : OwnF (w.drew.alloc (.cells (bytesRow s cap) 5 ((bytesRow s cap).size, (bytesRow s cap).size + 1))) w.heap.size (xs ++ List.replicate (cap - xs.length) 0) := by
  have e : bytesRow s cap = ((xs ++ List.replicate (cap - xs.length) 0).map (Value.int .u8)).toArray := by
    unfold bytesRow
    rw [hs.size]
    apply Array.toList_inj.1
    rw [← hs]
    simp
  refine ⟨(bytesRow s cap).size, (bytesRow s cap).size + 1, ?_, ?_⟩
  · show (w.heap.push _)[w.heap.size]? = _
    rw [Array.getElem?_push, if_pos rfl, ← e]
  · rw [e]
    simp

set_option maxRecDepth 100000 in
set_option maxHeartbeats 4000000 in
theorem round_any (s : ByteArray) (xs : List Int) (keep : Int) (more : Bool) (w : World) (hs : Str s xs) (h0 : xs ≠ []) (hd : Digs xs) (hl : xs.length ≤ 140737488351232) (hk : 0 ≤ keep) (hk1 : keep ≤ 9223372036854775807) :
    Calls Tryz.prog 50 #[.string s, .int .i64 keep, .bool more] w fun e w' => RoundTold s xs keep more e ∧ Below w.heap.size w w' := by
  obtain ⟨n, HN⟩ : ∃ n, Hid (xs.length = n) := ⟨_, rfl⟩
  have hsz : s.size = n := by rw [hs.size, HN.out]
  have e1 : s.toList ≠ [] := fun c => h0 ((str_nil hs).1 c)
  have e2 : (s.toList == []) = false := by rw [beq_eq_false_iff_ne]; exact e1
  have e3 : s.toList.isEmpty = false := by rw [List.isEmpty_eq_false_iff]; exact e1
  have WR : Hid (Calls Tryz.prog 61 #[.string s, .int .u64 10] w fun e w' => e = .returned (.int .i64 (-1)) ∧ w' = w) := by
    refine (wrong_any s xs xs.length 10 w hs rfl (by omega)).mono ?_
    rintro e w' ⟨⟨r, rfl, k⟩, rfl⟩
    cases k with
    | none _ => exact ⟨rfl, rfl⟩
    | here t h1 h2 h3 =>
      exfalso
      have := digs_at hd t h1
      rw [wv_dig this] at h3
      omega
  by_cases hge : (n : Int) ≤ keep
  · have CL := hid (clone_any s w (by rw [hsz]; have := HN.out; omega))
    have F : Hid (RoundTold s xs keep more (.returned (.tuple #[.string s, .bool false, .int .i64 0]))) := ⟨fun _ => rfl, fun c => by have := HN.out; omega⟩
    clear hs h0 hd hl
    go_enter Tryz.func50, Tryz.ntmps50
    go_wp2_with fail
    refine WR.out.mono ?_
    rintro e w' ⟨rfl, rfl⟩
    go_wp2_with fail
    refine CL.out.mono ?_
    rintro e w1 ⟨rfl, d1⟩
    have D1 := hid d1
    clear d1
    go_wp2_with fail
    go_ret3
    exact ⟨F.out, D1.out⟩
  · have hlt : keep < (n : Int) := by omega
    obtain ⟨k, HK⟩ : ∃ k, Hid (keep.toNat = k) := ⟨_, rfl⟩
    have hkk : keep = (k : Int) := by have := HK.out; omega
    have hkn : k < n := by omega
    have ST := hs.extract 0 k
    rw [List.drop_zero, Nat.sub_zero] at ST
    have SD := hs.extract k n
    rw [List.take_of_length_le (by have := HN.out; simp; omega)] at SD
    have hz1 : (s.extract 0 k).size = k := by rw [ST.size]; have := HN.out; simp; omega
    have CV := run_bytes_of_string (P := Tryz.prog) w 9 70 5 (s.extract 0 k) Tryz.underlying9 Tryz.underlying70 Tryz.underlying5
    rw [hz1] at CV
    obtain ⟨cap, hcap⟩ : ∃ cap, grownCap w k 0 5 = cap := ⟨_, rfl⟩
    rw [hcap] at CV
    have OF := bytes_own ST w cap
    have BW : Below w.heap.size w (w.drew.alloc (.cells (bytesRow (s.extract 0 k) cap) 5 ((bytesRow (s.extract 0 k) cap).size, (bytesRow (s.extract 0 k) cap).size + 1))) := (below_drewN (Below.refl _ _) 1).alloc (Nat.le_refl _) _
    obtain ⟨w1, hw1⟩ : ∃ w1, w.drew.alloc (.cells (bytesRow (s.extract 0 k) cap) 5 ((bytesRow (s.extract 0 k) cap).size, (bytesRow (s.extract 0 k) cap).size + 1)) = w1 := ⟨_, rfl⟩
    rw [hw1] at CV OF BW
    obtain ⟨es, hes⟩ : ∃ es, xs.take k ++ List.replicate (cap - (xs.take k).length) 0 = es := ⟨_, rfl⟩
    rw [hes] at OF
    have htk : (xs.take k).length = k := by have := HN.out; simp; omega
    have est : es.take k = xs.take k := by rw [← hes, List.take_append_of_le_length (by omega), List.take_of_length_le (by omega)]
    have esl : k ≤ es.length := by rw [← hes]; simp; have := HN.out; omega
    have dk : Digs (es.take k) := by rw [est]; exact fun d h => hd d (List.mem_of_mem_take h)
    have UP := hid (upward_any w.heap.size k cap es (xs.drop k) (s.extract k n) more w1 OF esl (by have := HN.out; omega) SD (fun c => by have := congrArg List.length c; have := HN.out; simp at *; omega) (by simp; omega) (fun d h => hd d (List.mem_of_mem_drop h)) dk)
    rw [est] at UP
    have EST := hid est
    have ESL := hid esl
    have HOF := hid OF
    have D1 := hid BW
    have DK := hid dk
    have FIN : Hid (∀ (W : World) (fs : List Int) (c u : Bool), OwnF W w.heap.size fs → k ≤ fs.length → UpIs (xs.take k) (xs.drop k) more u → Digs (fs.take k) → dv (fs.take k) + (if c then 10 ^ k else 0) = dv (xs.take k) + (if u then 1 else 0) →
        (convert 70 9 (.slice (some ⟨w.heap.size, 0, none⟩) k cap)).run Tryz.prog W = .ok (.string (strOfNums (fs.take k))) W ∧ RoundTold s xs keep more (.returned (.tuple #[.string (strOfNums (fs.take k)), .bool c, .int .i64 0]))) := by
      intro W fs c u o hl h1 h2 h3
      have hlen : (fs.take k).length = k := by simp; omega
      refine ⟨run_convert_bytes_arg (P := Tryz.prog) W 70 5 Tryz.underlying70 Tryz.underlying5 w.heap.size 0 k cap (fs.take k) hlen (fun i hi => ?_) 9 Tryz.underlying9, fun c => by have := HN.out; omega, fun _ => ⟨_, fs.take k, c, rfl, Str.of_nums (fun x hx => by have := h2 x hx; omega), ?_⟩⟩
      · rw [Nat.zero_add, o.cell i (by omega)]
        simp [List.getD, hi]
      · rw [HK.out]
        exact ⟨h2, hlen, u, h1, h3⟩
    have hkni : (k : Int) < (n : Int) := by omega
    have hnb : (n : Int) ≤ 140737488351232 := by have := HN.out; omega
    subst hkk
    clear hs h0 hd hl hlt hge ST SD OF BW hes est esl htk dk hw1 hcap hk1 hk
    go_enter Tryz.func50, Tryz.ntmps50
    go_wp2_with fail
    refine WR.out.mono ?_
    rintro e w' ⟨rfl, rfl⟩
    go_wp2_with fail
    refine UP.out.mono ?_
    rintro e w2 ⟨⟨u, rfl, hu⟩, d2⟩
    have O2 := hid (HOF.out.below d2 HOF.out.lt)
    have D2 := hid (chain D1.out d2 (Nat.le_refl _))
    have HU := hid hu
    clear hu d2 UP
    cases u with
    | false =>
      obtain ⟨cv, rt⟩ := FIN.out w2 es false false O2.out ESL.out HU.out DK.out (by rw [EST.out]; simp)
      have RT := hid rt
      clear rt FIN
      go_wp2_with fail
      go_ret3
      exact ⟨RT.out, D2.out⟩
    | true =>
      have RA := hid (raise_any w'.heap.size k cap es w2 O2.out ESL.out (by omega) DK.out)
      have HG : Hid (w'.heap.size ≤ w2.heap.size) := D2.out.size
      go_wp2_with fail
      refine RA.out.mono ?_
      rintro e w3 ⟨c, fs, rfl, o3, l3, r3, n3⟩
      have D3 : Hid (Below w'.heap.size w' w3) := D2.out.trans (n3.below (Nat.le_refl _) HG.out)
      rw [EST.out] at r3
      have hx : (es.take k).length = (xs.take k).length := by rw [EST.out]
      have hl1 : (xs.take k).length = k := by rw [← hx]; have := ESL.out; simp; omega
      obtain ⟨cv, rt⟩ := FIN.out w3 fs c true o3 (by have := ESL.out; omega) HU.out r3.1 (by have := r3.2.2; rw [hl1] at this; simpa using this)
      have RT := hid rt
      clear rt FIN o3 l3 r3 n3 RA hx hl1
      go_wp2_with fail
      go_ret3
      exact ⟨RT.out, D3.out⟩
end Go.Proofs.YtbdbpjghmejfjaaGreatDoor

namespace Go.Proofs.YtbdbpjghmejfjaaGreatDoor
open Go.RowKit Go.Deep
namespace Fx

/-- Whether the digits behind the first k take them up. -/
def up (xs : List Int) (k : Nat) : Bool := decide (10 ^ (xs.length - k) < 2 * dv (xs.drop k) ∨ (2 * dv (xs.drop k) = 10 ^ (xs.length - k) ∧ dv (xs.take k) % 2 = 1))
/-- The number of the first k digits, rounded. -/
def rn (xs : List Int) (k : Nat) : Int := dv (xs.take k) + if up xs k = true then 1 else 0
/-- .. and its digits. -/
def rd (xs : List Int) (k : Nat) : List Int := tx (if rn xs k = 10 ^ k then k + 1 else k) (rn xs k)
/-- The first c digits of a row, rounded, or filled up with zeros. -/
def kp (xs : List Int) (c : Int) : List Int := if c < 0 then [] else if (xs.length : Int) ≤ c then xs ++ List.replicate (c.toNat - xs.length) 48 else rd xs c.toNat

theorem up_is {xs : List Int} {k : Nat} {u : Bool} (h : UpIs (xs.take k) (xs.drop k) false u) : u = up xs k := by
  obtain ⟨h1, h2⟩ := h
  rw [List.length_drop] at h1 h2
  unfold up
  cases u with
  | true =>
    obtain ⟨a, b⟩ := h1 rfl
    symm
    rw [decide_eq_true_iff]
    rcases (show 2 * dv (xs.drop k) = 10 ^ (xs.length - k) ∨ 10 ^ (xs.length - k) < 2 * dv (xs.drop k) by omega) with c | c
    · right
      rcases b c with e | e
      · cases e
      · exact ⟨c, e⟩
    · exact .inl c
  | false =>
    obtain ⟨a, b⟩ := h2 rfl
    symm
    rw [decide_eq_false_iff_not]
    rintro (c | ⟨c, e⟩)
    · omega
    · have := (b c).2
      omega

theorem rn_bd {xs : List Int} (hd : Digs xs) {k : Nat} (hk : k ≤ xs.length) : 0 ≤ rn xs k ∧ rn xs k ≤ 10 ^ k := by
  have b := dv_bd (ds := xs.take k) (fun d h => hd d (List.mem_of_mem_take h))
  rw [List.length_take, Nat.min_eq_left hk] at b
  unfold rn
  split <;> omega

theorem rd_len (xs : List Int) (k : Nat) : (rd xs k).length = if rn xs k = 10 ^ k then k + 1 else k := tx_len _ _
theorem rd_digs (xs : List Int) (k : Nat) : Digs (rd xs k) := tx_digs _ _
theorem rd_dv {xs : List Int} (hd : Digs xs) {k : Nat} (hk : k ≤ xs.length) : dv (rd xs k) = rn xs k := by
  have b := rn_bd hd hk
  apply tx_dv b.1
  split
  · rw [Int.pow_succ]; have := p_pos k; omega
  · omega
theorem rd_of {xs ds : List Int} {k : Nat} (h : Digs ds) (hv : dv ds = rn xs k) (hl : ds.length = if rn xs k = 10 ^ k then k + 1 else k) : ds = rd xs k := by
  have := eq_tx h
  rw [hv, hl] at this
  exact this

theorem rd_round {xs ds : List Int} {k : Nat} {c : Bool} (hx : Digs xs) (hk : k ≤ xs.length) (h : Rounded xs ds k false c) : (if c = true then 49 :: ds else ds) = rd xs k := by
  obtain ⟨h1, h2, u, h3, h4⟩ := h
  have e := up_is h3
  subst e
  have v : dv ds + (if c = true then 10 ^ k else 0) = rn xs k := h4
  have b := dv_bd h1
  have hb := rn_bd hx hk
  rw [h2] at b
  cases c with
  | true =>
    rw [if_pos rfl] at v ⊢
    refine rd_of (fun d hd => ?_) ?_ ?_
    · rcases List.mem_cons.1 hd with rfl | hd
      · omega
      · exact h1 d hd
    · rw [dv_cons, h2]; omega
    · rw [if_pos (by omega), List.length_cons, h2]
  | false =>
    rw [if_neg Bool.false_ne_true] at v ⊢
    exact rd_of h1 (by omega) (by rw [if_neg (by omega), h2])

theorem kp_neg {xs : List Int} {c : Int} (h : c < 0) : kp xs c = [] := by rw [kp, if_pos h]
theorem kp_full {xs : List Int} {c : Nat} (h : xs.length ≤ c) : kp xs (c : Int) = xs ++ List.replicate (c - xs.length) 48 := by rw [kp, if_neg (by omega), if_pos (by omega), Int.toNat_natCast]
theorem kp_cut {xs : List Int} {c : Nat} (h : c < xs.length) : kp xs (c : Int) = rd xs c := by rw [kp, if_neg (by omega), if_neg (by omega), Int.toNat_natCast]
end Fx
end Go.Proofs.YtbdbpjghmejfjaaGreatDoor

namespace Go.Proofs.YtbdbpjghmejfjaaGreatDoor
open Go Go.RowKit Go.Deep Go.Shelf

def repLays_ren : Go.Shelf.Ren := ⟨fun | 105 => 28 | 212 => 51 | 99 => 52 | 165 => 53 | 166 => 54 | 170 => 55 | 169 => 56 | 263 => 80 | 264 => 81 | 206 => 82 | 240 => 83 | 241 => 84 | 276 => 102 | 277 => 103 | n => n, fun | 9 => 9 | 3 => 3 | 4 => 4 | 20 => 20 | 0 => 0 | 46 => 62 | 109 => 78 | 5 => 5 | 72 => 83 | 76 => 87 | 51 => 110 | 146 => 111 | 53 => 24 | 148 => 94 | 70 => 81 | 37 => 70 | 75 => 86 | 127 => 114 | 164 => 127 | 80 => 90 | n => n, fun | n => n⟩
theorem repLays : Go.Proofs.Lays.n105 Tryz.prog repLays_ren := {
  mixed := by kernel_rfl
  f99 := Tryz.func52.trans (congrArg some (by kernel_rfl))
  f105 := Tryz.func28.trans (congrArg some (by kernel_rfl))
  f165 := Tryz.func53.trans (congrArg some (by kernel_rfl))
  f166 := Tryz.func54.trans (congrArg some (by kernel_rfl))
  f169 := Tryz.func56.trans (congrArg some (by kernel_rfl))
  f170 := Tryz.func55.trans (congrArg some (by kernel_rfl))
  f206 := Tryz.func82.trans (congrArg some (by kernel_rfl))
  f212 := Tryz.func51.trans (congrArg some (by kernel_rfl))
  f240 := Tryz.func83.trans (congrArg some (by kernel_rfl))
  f241 := Tryz.func84.trans (congrArg some (by kernel_rfl))
  f263 := Tryz.func80.trans (congrArg some (by kernel_rfl))
  f264 := Tryz.func81.trans (congrArg some (by kernel_rfl))
  f276 := Tryz.func102.trans (congrArg some (by kernel_rfl))
  f277 := Tryz.func103.trans (congrArg some (by kernel_rfl))
  t0 := Tryz.underlying0
  a0 := Tryz.isAgg0
  z0 := Tryz.sizeOf0
  v0 := Tryz.zeroValue0
  t3 := Tryz.underlying3
  a3 := Tryz.isAgg3
  z3 := Tryz.sizeOf3
  v3 := Tryz.zeroValue3
  t4 := Tryz.underlying4
  a4 := Tryz.isAgg4
  z4 := Tryz.sizeOf4
  v4 := Tryz.zeroValue4
  t5 := Tryz.underlying5
  a5 := Tryz.isAgg5
  z5 := Tryz.sizeOf5
  v5 := Tryz.zeroValue5
  t9 := Tryz.underlying9
  a9 := Tryz.isAgg9
  z9 := Tryz.sizeOf9
  v9 := Tryz.zeroValue9
  t20 := Tryz.underlying20
  a20 := Tryz.isAgg20
  z20 := Tryz.sizeOf20
  v20 := Tryz.zeroValue20
  t37 := Tryz.underlying70
  a37 := Tryz.isAgg70
  z37 := Tryz.sizeOf70
  v37 := Tryz.zeroValue70
  t46 := Tryz.underlying62
  a46 := Tryz.isAgg62
  z46 := Tryz.sizeOf62
  v46 := Tryz.zeroValue62
  t51 := Tryz.underlying110
  a51 := Tryz.isAgg110
  z51 := Tryz.sizeOf110
  v51 := Tryz.zeroValue110
  t53 := Tryz.underlying24
  a53 := Tryz.isAgg24
  z53 := Tryz.sizeOf24
  v53 := Tryz.zeroValue24
  t70 := Tryz.underlying81
  a70 := Tryz.isAgg81
  z70 := Tryz.sizeOf81
  v70 := Tryz.zeroValue81
  t72 := Tryz.underlying83
  a72 := Tryz.isAgg83
  z72 := Tryz.sizeOf83
  v72 := Tryz.zeroValue83
  t75 := Tryz.underlying86
  a75 := Tryz.isAgg86
  z75 := Tryz.sizeOf86
  v75 := Tryz.zeroValue86
  t76 := Tryz.underlying87
  a76 := Tryz.isAgg87
  z76 := Tryz.sizeOf87
  v76 := Tryz.zeroValue87
  t109 := Tryz.underlying78
  a109 := Tryz.isAgg78
  z109 := Tryz.sizeOf78
  v109 := Tryz.zeroValue78
  t127 := Tryz.underlying114
  a127 := Tryz.isAgg114
  z127 := Tryz.sizeOf114
  v127 := Tryz.zeroValue114
  t146 := Tryz.underlying111
  a146 := Tryz.isAgg111
  z146 := Tryz.sizeOf111
  v146 := Tryz.zeroValue111
  t148 := Tryz.underlying94
  a148 := Tryz.isAgg94
  z148 := Tryz.sizeOf94
  v148 := Tryz.zeroValue94
  t164 := Tryz.underlying127
  a164 := Tryz.isAgg127
  z164 := Tryz.sizeOf127
  v164 := Tryz.zeroValue127 }
theorem repExtra : Go.Proofs.Builder.Extra Tryz.prog repLays_ren where
  sizeBuilder := by kernel_rfl
  liesBuilder := by kernel_rfl
  t5 := Tryz.underlying5
  a5 := Tryz.isAgg5
  z5 := Tryz.sizeOf5
  v5 := Tryz.zeroValue5
  infoByte := by kernel_rfl
  cellsByte := by kernel_rfl
  sizeByte := by kernel_rfl
  neB5 := by decide

theorem repeat_str (c : Nat) : Str ⟨(Lib.repeatL (#[48] : Array UInt8).toList c).toArray⟩ (List.replicate c 48) := by
  unfold Str
  simp only
  induction c with
  | zero => rfl
  | succ c ih =>
    rw [Lib.repeatL, List.replicate_succ]
    simpa using ih

theorem frepeat_any (c : Nat) (w : World) (hc : c ≤ 100000) :
    Calls Tryz.prog 28 #[.string ⟨#[48]⟩, .int .i64 (c : Int)] w fun e w' => ∃ s, e = .returned (.string s) ∧ Str s (List.replicate c 48) ∧ Below w.heap.size w w' := by
  refine (Any.strings_Repeat repLays repExtra ⟨#[48]⟩ c w (by omega) (by have : (⟨#[48]⟩ : ByteArray).size = 1 := rfl; rw [this]; omega)).mono ?_
  rintro e w' ⟨rfl, hB⟩
  exact ⟨_, rfl, repeat_str c, hB⟩
end Go.Proofs.YtbdbpjghmejfjaaGreatDoor

namespace Go.Proofs.YtbdbpjghmejfjaaGreatDoor
open Go Go.RowKit Go.Deep

theorem Str.app {a b : ByteArray} {xs ys : List Int} (h : Str a xs) (k : Str b ys) : Str (a ++ b) (xs ++ ys) := by
  unfold Str at *
  rw [← h, ← k, ← List.map_append]
  simp

theorem str_one : Str ⟨#[49]⟩ [49] := rfl

set_option maxRecDepth 100000 in
set_option maxHeartbeats 2000000 in
theorem kept_any (s : ByteArray) (xs : List Int) (c : Int) (w : World) (hs : Str s xs) (hd : Digs xs) (h0 : xs ≠ []) (hl : xs.length ≤ 3000) (hc : c ≤ 10000) :
    Calls Tryz.prog 27 #[.string s, .int .i64 c] w fun e w' => ∃ s', e = .returned (.string s') ∧ Str s' (Fx.kp xs c) ∧ Below w.heap.size w w' := by
  by_cases hn : c < 0
  · have F : Hid (Str ⟨#[]⟩ (Fx.kp xs c)) := by rw [Fx.kp_neg hn]; rfl
    clear hs hd h0 hl
    go_enter Tryz.func27, Tryz.ntmps27
    go_wp2_with fail
    go_ret
    exact ⟨_, rfl, F.out, Below.refl _ _⟩
  · obtain ⟨k, rfl⟩ := Int.eq_ofNat_of_zero_le (show 0 ≤ c by omega)
    have R := hid (round_any s xs k false w hs h0 hd (by omega) (by omega) (by omega))
    by_cases hg : xs.length ≤ k
    · obtain ⟨z, hz⟩ : ∃ z : Nat, (k : Int) - (s.size : Int) = (z : Int) := ⟨k - s.size, by rw [hs.size]; omega⟩
      have RE := hid (fun wx : World => frepeat_any z wx (by omega))
      have szb : (s.size : Int) ≤ 3000 := by rw [hs.size]; omega
      have kb : (k : Int) ≤ 10000 := hc
      have F : Hid (∀ b : ByteArray, Str b (List.replicate z 48) → Str (s ++ b) (Fx.kp xs k)) := by
        intro b hb
        rw [Fx.kp_full hg, show k - xs.length = z by have := hs.size; omega]
        exact hs.app hb
      have RT : Hid (∀ e, RoundTold s xs k false e → e = .returned (.tuple #[.string s, .bool false, .int .i64 0])) := fun e h => h.1 (by omega)
      clear hs hd h0 hl hg hn hc
      go_enter Tryz.func27, Tryz.ntmps27
      go_wp2_with fail
      refine R.out.mono ?_
      rintro e w1 ⟨h, B1⟩
      obtain rfl := RT.out e h
      have HB := hid B1
      clear h B1 RT R
      go_wp2_with fail
      refine (RE.out _).mono ?_
      rintro e w2 ⟨b, rfl, hb, B2⟩
      have K := hid (And.intro (F.out b hb) (HB.out.trans (B2.mono HB.out.size)))
      have szc : (b.size : Int) ≤ 10000 := by rw [hb.size, List.length_replicate]; omega
      clear hb B2 RE F HB
      go_wp2_with fail
      go_ret
      exact ⟨_, rfl, K.out.1, K.out.2⟩
    · have hk : k < xs.length := by omega
      have RE := hid (fun wx : World => frepeat_any 0 wx (by omega))
      have kb : (k : Int) ≤ 10000 := hc
      have RT : Hid (∀ e, RoundTold s xs k false e → ∃ s' c, e = .returned (.tuple #[.string s', .bool c, .int .i64 0]) ∧ s'.size = k ∧ Hid (∀ b, Str b [] → if c = true then Str (⟨#[49]⟩ ++ (s' ++ b)) (Fx.kp xs k) else Str (s' ++ b) (Fx.kp xs k))) := by
        intro e h
        obtain ⟨s', ds, c, rfl, h1, h2⟩ := h.2 (by omega)
        rw [Int.toNat_natCast] at h2
        refine ⟨s', c, rfl, by rw [h1.size, h2.2.1], fun b hb => ?_⟩
        have q := Fx.rd_round hd (by omega) h2
        rw [Fx.kp_cut hk, ← q]
        have a := h1.app hb
        rw [List.append_nil] at a
        cases c
        · exact a
        · exact str_one.app a
      clear hs hd h0 hl hg hn hc hk
      go_enter Tryz.func27, Tryz.ntmps27
      go_wp2_with fail
      refine R.out.mono ?_
      rintro e w1 ⟨h, B1⟩
      obtain ⟨s', c, rfl, hz, F⟩ := RT.out e h
      have HB := hid B1
      clear h B1 RT R
      go_wp2_with fail
      refine (RE.out _).mono ?_
      rintro e w2 ⟨b, rfl, hb, B2⟩
      have K := hid (F.out b hb)
      have HB2 := hid (HB.out.trans (B2.mono HB.out.size))
      have szc : b.size = 0 := by rw [hb.size]; rfl
      clear hb B2 RE F HB
      cases c
      · go_wp2_with fail
        go_ret
        exact ⟨_, rfl, K.out, HB2.out⟩
      · go_wp2_with fail
        go_ret
        exact ⟨_, rfl, K.out, HB2.out⟩
end Go.Proofs.YtbdbpjghmejfjaaGreatDoor
