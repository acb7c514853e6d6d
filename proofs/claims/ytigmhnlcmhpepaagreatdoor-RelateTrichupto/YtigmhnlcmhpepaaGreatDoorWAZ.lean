/-
  Texts put together: FApi, FNearN, FCl2, FHeadsN, FCutsN, PoN, PoA, PoB, PoPadN.
-/
import Derived.Test.YtigmhnlcmhpepaaGreatDoorWAV
import Derived.Test.YtigmhnlcmhpepaaGreatDoorWAQ
import Derived.BigQuiet
import Derived.Test.YtigmhnlcmhpepaaGreatDoorWAG
import Derived.Test.YtigmhnlcmhpepaaGreatDoorWAD
import Derived.Laws.Concat
namespace Go.Proofs.YtigmhnlcmhpepaaGreatDoor
open Go Go.RowKit Go.Deep

namespace Fx
/-- The error. -/
def rf (d n l : Int) : Int := if Ie.fnt d = true then (if n < l ∨ 4200 < n then 1 else 0) else 5
theorem rf_zero {d n l : Int} : rf d n l = 0 ↔ Ie.fnt d = true ∧ l ≤ n ∧ n ≤ 4200 := by
  unfold rf
  by_cases h : Ie.fnt d = true
  · rw [if_pos h]
    by_cases g : n < l ∨ 4200 < n
    · rw [if_pos g]; omega
    · rw [if_neg g]; simp [h]; omega
  · rw [if_neg h]; simp [h]
/-- The whole number of Places, written. -/
noncomputable def W (d : Int) (n : Nat) : List Int := List.replicate (n + 1 - (kp (X d) ((X d).length + P d + n)).length) 48 ++ kp (X d) ((X d).length + P d + n)
noncomputable def pA (d n : Int) : List Int := if rf d n 0 = 0 then (W d n.toNat).take ((W d n.toNat).length - n.toNat) else []
noncomputable def pB (d n : Int) : List Int := if rf d n 0 = 0 then (W d n.toNat).drop ((W d n.toNat).length - n.toNat) else []
/-- What Figures answers. -/
noncomputable def gS (d n : Int) : List Int := if rf d n 1 = 0 then (kp (X d) n).take n.toNat else []
noncomputable def gK (d n : Int) : Int := if rf d n 1 = 0 then (X d).length - 1 + P d + (if n < (kp (X d) n).length then 1 else 0) else 0

theorem W_len (d : Int) (n : Nat) : n + 1 ≤ (W d n).length := by
  unfold W
  rw [List.length_append, List.length_replicate]
  omega
theorem kp_len_le {xs : List Int} {c : Int} {m : Nat} (hc : c ≤ m) (hx : xs.length ≤ m) : (kp xs c).length ≤ m + 1 := by
  unfold kp
  split
  · simp
  · split
    · rw [List.length_append, List.length_replicate]; omega
    · rw [rd_len]; split <;> omega
end Fx

set_option maxRecDepth 100000 in
theorem refused_any (d n l : Int) (w : World) (h0 : 0 ≤ d) (h1 : d < 18446744073709551616) :
    Calls Tryz.prog 197 #[.int .u64 d, .int .i64 n, .int .i64 l] w fun e w' => e = .returned (.int .i64 (Fx.rf d n l)) ∧ w' = w := by
  have FN := hid (fun wx : World => ffinite_any d wx h0 h1)
  have E : Hid (Fx.rf d n l = if Ie.fnt d = true then (if n < l ∨ 4200 < n then 1 else 0) else 5) := rfl
  generalize Ie.fnt d = f at *
  clear h0 h1
  cases f
  · have E2 : Hid (Fx.rf d n l = 5) := E.out
    clear E
    go_enter Tryz.func197, Tryz.ntmps197
    go_wp2_with fail
    refine (FN.out _).mono ?_
    rintro e w' ⟨rfl, rfl⟩
    go_wp2_with fail
    go_ret
    exact ⟨i_retI E2.out.symm, rfl⟩
  · have E2 : Hid (Fx.rf d n l = if n < l ∨ 4200 < n then 1 else 0) := E.out
    clear E
    rcases (show n < l ∨ (l ≤ n ∧ 4200 < n) ∨ (l ≤ n ∧ n ≤ 4200) by omega) with h | ⟨h, h'⟩ | ⟨h, h'⟩
    · have E3 : Hid (Fx.rf d n l = 1) := by rw [Hid, E2.out, if_pos (.inl h)]
      clear E2
      go_enter Tryz.func197, Tryz.ntmps197
      go_wp2_with fail
      refine (FN.out _).mono ?_
      rintro e w' ⟨rfl, rfl⟩
      go_wp2_with fail
      go_ret
      exact ⟨i_retI E3.out.symm, rfl⟩
    · have E3 : Hid (Fx.rf d n l = 1) := by rw [Hid, E2.out, if_pos (.inr h')]
      clear E2
      go_enter Tryz.func197, Tryz.ntmps197
      go_wp2_with fail
      refine (FN.out _).mono ?_
      rintro e w' ⟨rfl, rfl⟩
      go_wp2_with fail
      go_ret
      exact ⟨i_retI E3.out.symm, rfl⟩
    · have E3 : Hid (Fx.rf d n l = 0) := by rw [Hid, E2.out, if_neg (by omega)]
      clear E2
      go_enter Tryz.func197, Tryz.ntmps197
      go_wp2_with fail
      refine (FN.out _).mono ?_
      rintro e w' ⟨rfl, rfl⟩
      go_wp2_with fail
      go_ret
      exact ⟨i_retI E3.out.symm, rfl⟩

def PlacesTold (d n : Int) (w : World) (e : Ending) (w' : World) : Prop :=
  ∃ s t, e = .returned (.tuple #[.string s, .string t, .int .i64 (Fx.rf d n 0)]) ∧ Str s (Fx.pA d n) ∧ Str t (Fx.pB d n) ∧ Below w.heap.size w w'
def FiguresTold (d n : Int) (w : World) (e : Ending) (w' : World) : Prop :=
  ∃ s, e = .returned (.tuple #[.string s, .int .i64 (Fx.gK d n), .int .i64 (Fx.rf d n 1)]) ∧ Str s (Fx.gS d n) ∧ Below w.heap.size w w'

set_option maxRecDepth 100000 in
set_option maxHeartbeats 4000000 in
theorem places_any (d n : Int) (w : World) (hT : Tab w) (h0 : 0 ≤ d) (h1 : d < 18446744073709551616) :
    Calls Tryz.prog 181 #[.int .u64 d, .int .i64 n] w fun e w' => PlacesTold d n w e w' := by
  have RF := hid (refused_any d n 0 w h0 h1)
  by_cases hr : Fx.rf d n 0 = 0
  · obtain ⟨hf, hn0, hn1⟩ := Fx.rf_zero.1 hr
    obtain ⟨k, rfl⟩ := Int.eq_ofNat_of_zero_le hn0
    have EX := exact_any d w hT h0 h1 (of_decide_eq_true hf)
    unfold ExTold at EX
    rw [← Fx.X, ← Fx.P] at EX
    have HE := hid EX
    obtain ⟨r1, r2, r3, r4, r5⟩ := Fx.X_room hf
    have KE : Hid (∀ (wx : World) (s : ByteArray), Str s (Fx.X d) → Calls Tryz.prog 199 #[.string s, .int .i64 ((Fx.X d).length + Fx.P d + k)] wx fun e w' => ∃ s', e = .returned (.string s') ∧ Str s' (Fx.kp (Fx.X d) ((Fx.X d).length + Fx.P d + k)) ∧ Below wx.heap.size wx w') :=
      fun wx s hs => kept_any s _ _ wx hs (Fx.X_digs hf).1 (Fx.X_digs hf).2 (by omega) (by omega)
    have LB : (Fx.kp (Fx.X d) ((Fx.X d).length + Fx.P d + k)).length ≤ 6000 := by
      have := Fx.kp_len_le (xs := Fx.X d) (c := (Fx.X d).length + Fx.P d + k) (m := 5999) (by omega) (by omega)
      omega
    have G : Hid (∀ (w' : World) (a b : ByteArray), Str a (List.replicate (k + 1 - (Fx.kp (Fx.X d) ((Fx.X d).length + Fx.P d + k)).length) 48) → Str b (Fx.kp (Fx.X d) ((Fx.X d).length + Fx.P d + k)) → Below w.heap.size w w' → k ≤ (a ++ b).size ∧ (a ++ b).size ≤ 12000 ∧ PlacesTold d k w (.returned (.tuple #[.string ((a ++ b).extract 0 ((a ++ b).size - k)), .string ((a ++ b).extract ((a ++ b).size - k) (a ++ b).size), .int .i64 0])) w') := by
      intro w' a b ha hb hB
      have hab : Str (a ++ b) (Fx.W d k) := ha.app hb
      have hz := hab.size
      have hwl := Fx.W_len d k
      have e1 := hab.extract 0 ((a ++ b).size - k)
      have e2 := hab.extract ((a ++ b).size - k) (a ++ b).size
      rw [List.drop_zero, Nat.sub_zero] at e1
      rw [List.take_of_length_le (by rw [List.length_drop, hz]; omega)] at e2
      rw [hz] at e1 e2
      refine ⟨by omega, ?_, ⟨_, _, by rw [hr], ?_, ?_, hB⟩⟩
      · rw [hz]
        unfold Fx.W
        rw [List.length_append, List.length_replicate]
        omega
      · rw [Fx.pA, if_pos hr, Int.toNat_natCast, hz]; exact e1
      · rw [Fx.pB, if_pos hr, Int.toNat_natCast, hz]; exact e2
    rw [hr] at RF
    obtain ⟨L, hL⟩ : ∃ L, (Fx.X d).length = L := ⟨_, rfl⟩
    have LS : Hid (∀ s, Str s (Fx.X d) → s.size = L) := fun s hs => by rw [hs.size, hL]
    rw [hL] at KE LB G r1 r2 r4 r5
    generalize Fx.X d = X at *
    generalize Fx.P d = Q at *
    obtain ⟨c, hc⟩ : ∃ c, (L : Int) + Q + k = c := ⟨_, rfl⟩
    rw [hc] at KE LB G
    generalize hkp : Fx.kp X c = V at *
    clear hkp hf hr EX hT h0 h1 hL
    obtain ⟨v, hv⟩ : ∃ v, V.length = v := ⟨_, rfl⟩
    have VS : Hid (∀ s, Str s V → s.size = v) := fun s hs => by rw [hs.size, hv]
    rw [hv] at LB G
    clear hv
    obtain ⟨z, hz⟩ : ∃ z, k + 1 - v = z := ⟨_, rfl⟩
    rw [hz] at G
    have MX : max ((k : Int) + 1 - (v : Int)) 0 = (z : Int) := by omega
    have RE := hid (fun wx : World => frepeat_any z wx (by omega))
    have kb : (k : Int) ≤ 4200 := hn1
    have vb : (v : Int) ≤ 6000 := by omega
    clear hn0 hn1 LB
    go_enter Tryz.func181, Tryz.ntmps181
    go_wp2_with fail
    refine RF.out.mono ?_
    rintro e wz ⟨rfl, hz⟩
    replace hz := hz.symm
    subst hz
    go_wp2_with fail
    refine HE.out.mono ?_
    rintro e w1 ⟨s, rfl, hs, B1⟩
    have hsz := LS.out s hs
    have K1 := hid (KE.out w1 s hs)
    have HB := hid B1
    clear B1 hs KE HE LS RF
    go_wp2_with fail
    refine K1.out.mono ?_
    rintro e w2 ⟨t, rfl, ht, B2⟩
    have htz := VS.out t ht
    have HT2 := hid ht
    have HB2 := hid (HB.out.trans (B2.mono HB.out.size))
    clear B2 ht K1 HB VS
    go_wp2_with fail
    refine (RE.out _).mono ?_
    rintro e w3 ⟨a, rfl, ha, B3⟩
    have haz : a.size = z := by rw [ha.size, List.length_replicate]
    obtain ⟨g1, g2, -⟩ := G.out _ a t ha HT2.out (HB2.out.trans (B3.mono HB2.out.size))
    have HG := hid (fun q : Nat => (G.out _ a t ha HT2.out (below_drewN (HB2.out.trans (B3.mono HB2.out.size)) q)).2.2)
    clear ha B3 G HB2 RE
    go_upto_region 7 with fail
    generalize a ++ t = ab at *
    obtain ⟨N, hN⟩ : ∃ N, ab.size = N := ⟨_, rfl⟩
    rw [hN] at HG g1 g2
    obtain ⟨j, hj⟩ : ∃ j, N - k = j := ⟨_, rfl⟩
    rw [hj] at HG
    have nj : (N : Int) - (k : Int) = (j : Int) := by omega
    have jN : (j : Int) ≤ (N : Int) := by omega
    have nb : (N : Int) ≤ 12000 := by omega
    clear hj hz MX hc
    go_quiet (fail)
    go_wp2_with fail
    go_ret3
    exact HG.out _
  · have F : Hid (PlacesTold d n w (.returned (.tuple #[.string ⟨#[]⟩, .string ⟨#[]⟩, .int .i64 (Fx.rf d n 0)])) w) := ⟨_, _, rfl, by rw [Fx.pA, if_neg hr]; rfl, by rw [Fx.pB, if_neg hr]; rfl, Below.refl _ _⟩
    have hr' : (Fx.rf d n 0 == 0) = false := by rw [beq_eq_false_iff_ne]; exact hr
    have hr2 : (Fx.rf d n 0 != 0) = true := by simp [bne, hr']
    generalize Fx.rf d n 0 = r at *
    clear hr h0 h1 hT
    go_enter Tryz.func181, Tryz.ntmps181
    go_wp2_with fail
    refine RF.out.mono ?_
    rintro e wz ⟨rfl, hz⟩
    replace hz := hz.symm
    subst hz
    go_wp2_with fail
    go_ret3
    exact F.out

set_option maxRecDepth 100000 in
set_option maxHeartbeats 4000000 in
theorem figures_any (d n : Int) (w : World) (hT : Tab w) (h0 : 0 ≤ d) (h1 : d < 18446744073709551616) :
    Calls Tryz.prog 182 #[.int .u64 d, .int .i64 n] w fun e w' => FiguresTold d n w e w' := by
  have RF := hid (refused_any d n 1 w h0 h1)
  by_cases hr : Fx.rf d n 1 = 0
  · obtain ⟨hf, hn0, hn1⟩ := Fx.rf_zero.1 hr
    obtain ⟨k, rfl⟩ := Int.eq_ofNat_of_zero_le (show 0 ≤ n by omega)
    have EX := exact_any d w hT h0 h1 (of_decide_eq_true hf)
    unfold ExTold at EX
    rw [← Fx.X, ← Fx.P] at EX
    have HE := hid EX
    obtain ⟨r1, r2, r3, r4, r5⟩ := Fx.X_room hf
    have KE : Hid (∀ (wx : World) (s : ByteArray), Str s (Fx.X d) → Calls Tryz.prog 199 #[.string s, .int .i64 (k : Int)] wx fun e w' => ∃ s', e = .returned (.string s') ∧ Str s' (Fx.kp (Fx.X d) k) ∧ Below wx.heap.size wx w') :=
      fun wx s hs => kept_any s _ _ wx hs (Fx.X_digs hf).1 (Fx.X_digs hf).2 (by omega) (by omega)
    have LB : (Fx.kp (Fx.X d) k).length ≤ 6000 := by
      have := Fx.kp_len_le (xs := Fx.X d) (c := k) (m := 5999) (by omega) (by omega)
      omega
    have GA : Hid (∀ (w' : World) (b : ByteArray), Str b (Fx.kp (Fx.X d) k) → Below w.heap.size w w' → k < (Fx.kp (Fx.X d) k).length → FiguresTold d k w (.returned (.tuple #[.string (b.extract 0 k), .int .i64 ((Fx.X d).length - 1 + Fx.P d + 1), .int .i64 0])) w') := by
      intro w' b hb hB hl
      have e1 := hb.extract 0 k
      rw [List.drop_zero, Nat.sub_zero] at e1
      refine ⟨_, by rw [Fx.gK, if_pos hr, if_pos (by omega), hr], ?_, hB⟩
      rw [Fx.gS, if_pos hr, Int.toNat_natCast]
      exact e1
    have GB : Hid (∀ (w' : World) (b : ByteArray), Str b (Fx.kp (Fx.X d) k) → Below w.heap.size w w' → ¬ k < (Fx.kp (Fx.X d) k).length → FiguresTold d k w (.returned (.tuple #[.string b, .int .i64 ((Fx.X d).length - 1 + Fx.P d), .int .i64 0])) w') := by
      intro w' b hb hB hl
      refine ⟨_, by rw [Fx.gK, if_pos hr, if_neg (by omega), Int.add_zero, hr], ?_, hB⟩
      rw [Fx.gS, if_pos hr, Int.toNat_natCast, List.take_of_length_le (by omega)]
      exact hb
    rw [hr] at RF
    obtain ⟨L, hL⟩ : ∃ L, (Fx.X d).length = L := ⟨_, rfl⟩
    have LS : Hid (∀ s, Str s (Fx.X d) → s.size = L) := fun s hs => by rw [hs.size, hL]
    rw [hL] at GA GB r1 r2 r4 r5
    generalize Fx.X d = X at *
    generalize Fx.P d = Q at *
    generalize hkp : Fx.kp X k = V at *
    clear hkp hf hr EX hT h0 h1 hL
    obtain ⟨v, hv⟩ : ∃ v, V.length = v := ⟨_, rfl⟩
    have VS : Hid (∀ s, Str s V → s.size = v) := fun s hs => by rw [hs.size, hv]
    rw [hv] at LB GA GB
    clear hv
    have kb : (k : Int) ≤ 4200 := hn1
    have vb : (v : Int) ≤ 6000 := by omega
    have l1 : (1 : Int) ≤ (L : Int) := by omega
    have l2 : (L : Int) ≤ 1383 := by omega
    clear hn0 hn1 LB
    go_enter Tryz.func182, Tryz.ntmps182
    go_wp2_with fail
    refine RF.out.mono ?_
    rintro e wz ⟨rfl, hz⟩
    replace hz := hz.symm
    subst hz
    go_wp2_with fail
    refine HE.out.mono ?_
    rintro e w1 ⟨s, rfl, hs, B1⟩
    have hsz := LS.out s hs
    have K1 := hid (KE.out w1 s hs)
    have HB := hid B1
    clear B1 hs KE HE LS RF
    go_wp2_with fail
    refine K1.out.mono ?_
    rintro e w2 ⟨t, rfl, ht, B2⟩
    have htz := VS.out t ht
    have HB2 := hid (HB.out.trans (B2.mono HB.out.size))
    by_cases hvk : k < v
    · have K := hid (GA.out w2 t ht HB2.out hvk)
      have hvi : (k : Int) < (v : Int) := by omega
      clear B2 ht K1 HB VS GA GB
      go_wp2_with fail
      go_ret3
      exact K.out
    · have K := hid (GB.out w2 t ht HB2.out hvk)
      have hvi : ¬ (k : Int) < (v : Int) := by omega
      clear B2 ht K1 HB VS GA GB
      go_wp2_with fail
      go_ret3
      exact K.out
  · have F : Hid (FiguresTold d n w (.returned (.tuple #[.string ⟨#[]⟩, .int .i64 0, .int .i64 (Fx.rf d n 1)])) w) := ⟨_, by rw [Fx.gK, if_neg hr], by rw [Fx.gS, if_neg hr]; rfl, Below.refl _ _⟩
    have hr' : (Fx.rf d n 1 == 0) = false := by rw [beq_eq_false_iff_ne]; exact hr
    have hr2 : (Fx.rf d n 1 != 0) = true := by simp [bne, hr']
    generalize Fx.rf d n 1 = r at *
    clear hr h0 h1 hT
    go_enter Tryz.func182, Tryz.ntmps182
    go_wp2_with fail
    refine RF.out.mono ?_
    rintro e wz ⟨rfl, hz⟩
    replace hz := hz.symm
    subst hz
    go_wp2_with fail
    go_ret3
    exact F.out
end Go.Proofs.YtigmhnlcmhpepaaGreatDoor

namespace Go.Proofs.YtigmhnlcmhpepaaGreatDoor
open Go Go.RowKit Go.Deep
namespace Fx

theorem W_digs {d : Int} (hf : Ie.fnt d = true) (n : Nat) : Digs (W d n) := by
  have hx := (X_digs hf).1
  intro x h
  rcases List.mem_append.1 h with h | h
  · have := List.eq_of_mem_replicate h; omega
  · unfold kp at h
    split at h
    · cases h
    · split at h
      · rcases List.mem_append.1 h with h | h
        · exact hx x h
        · have := List.eq_of_mem_replicate h; omega
      · exact rd_digs _ _ x h
theorem dv_W_room {d : Int} (hf : Ie.fnt d = true) {n : Nat} (hn : n ≤ 4200) : (W d n).length ≤ 6000 := by
  obtain ⟨r1, r2, r3, r4, r5⟩ := X_room hf
  have := kp_len_le (xs := X d) (c := (X d).length + P d + n) (m := 5000) (by omega) (by omega)
  unfold W
  rw [List.length_append, List.length_replicate]
  omega
end Fx
end Go.Proofs.YtigmhnlcmhpepaaGreatDoor

namespace Go.Proofs.YtigmhnlcmhpepaaGreatDoor
open Go Go.RowKit Go.Deep
namespace Fx

theorem head_of_low {ds : List Int} {n : Nat} (h : Digs ds) (hn : ds.length = n + 1) (hl : 10 ^ n ≤ dv ds) : ds.getD 0 0 ≠ 48 := by
  match ds, hn with
  | x :: ys, hn =>
    intro c
    simp at c
    subst c
    have b := (dv_bd (ds := ys) (fun d hd => h d (by simp [hd]))).2
    have e : ys.length = n := by simpa using hn
    rw [dv_cons, e] at hl
    rw [e] at b
    omega

/-- The rounded digits begin with a digit that is no zero. -/
theorem rd_head {xs : List Int} (h : Nml xs) {k : Nat} (hk0 : 0 < k) (hk : k ≤ xs.length) : (rd xs k).getD 0 0 ≠ 48 := by
  obtain ⟨j, rfl⟩ : ∃ j, k = j + 1 := ⟨k - 1, by omega⟩
  have dk : Digs (xs.take (j + 1)) := fun d g => h.digs d (List.mem_of_mem_take g)
  have lk : (xs.take (j + 1)).length = j + 1 := by rw [List.length_take]; omega
  have low := head_low dk lk (by have := h.head; simpa [List.getD] using this)
  have b := rn_bd h.digs hk
  have v := rd_dv h.digs hk
  have l := rd_len xs (j + 1)
  have rl : 10 ^ j ≤ rn xs (j + 1) := by unfold rn; split <;> omega
  by_cases c : rn xs (j + 1) = 10 ^ (j + 1)
  · rw [if_pos c] at l
    exact head_of_low (rd_digs _ _) l (by omega)
  · rw [if_neg c] at l
    exact head_of_low (rd_digs _ _) l (by omega)

end Fx
end Go.Proofs.YtigmhnlcmhpepaaGreatDoor

namespace Go.Proofs.YtigmhnlcmhpepaaGreatDoor
open Go Go.RowKit Go.Deep
namespace Fx

theorem rn_carry {xs : List Int} (hd : Digs xs) {k : Nat} (hk : k < xs.length) (h : rn xs (k + 1) = 10 ^ (k + 1)) : rn xs k = 10 ^ k := by
  have dk : Digs (xs.take (k + 1)) := fun d g => hd d (List.mem_of_mem_take g)
  have lk : (xs.take (k + 1)).length = k + 1 := by rw [List.length_take]; omega
  have b := dv_bd dk
  rw [lk] at b
  have T : dv (xs.take (k + 1)) = 10 ^ (k + 1) - 1 := by unfold rn at h; split at h <;> omega
  have e1 := take_last lk
  have x1 := digs_getD dk (show k < (xs.take (k + 1)).length by omega)
  rw [List.take_take, show min k (k + 1) = k by omega] at e1
  generalize hx : (xs.take (k + 1)).getD k 0 = x at *
  rw [e1, dv_snoc] at T
  have b2 := dv_bd (ds := xs.take k) (fun d g => hd d (List.mem_of_mem_take g))
  rw [List.length_take, Nat.min_eq_left (by omega)] at b2
  rw [Int.pow_succ] at T
  have T1 : dv (xs.take k) = 10 ^ k - 1 := by omega
  have T2 : x = 57 := by omega
  have e2 : xs.drop k = 57 :: xs.drop (k + 1) := by
    rw [List.drop_eq_getElem_cons hk]
    congr 1
    rw [Nm.getD_take, if_pos (by omega)] at hx
    rw [← T2, ← hx]
    simp [List.getD, hk]
  have u : up xs k = true := by
    unfold up
    rw [decide_eq_true_iff]
    left
    rw [e2, dv_cons, List.length_drop, show xs.length - k = (xs.length - (k + 1)) + 1 by omega, Int.pow_succ]
    have := (dv_bd (ds := xs.drop (k + 1)) (fun d g => hd d (List.mem_of_mem_drop g))).1
    have := p_pos (xs.length - (k + 1))
    omega
  unfold rn
  rw [u, if_pos rfl, T1]
  omega

theorem tx_ten (k : Nat) : tx (k + 1) (10 ^ k) = 49 :: List.replicate k 48 := by
  have l : (49 :: List.replicate k (48 : Int)).length = k + 1 := by simp
  have d : Digs (49 :: List.replicate k (48 : Int)) := by
    intro x h
    rcases List.mem_cons.1 h with rfl | h
    · omega
    · have := List.eq_of_mem_replicate h; omega
  have v : dv (49 :: List.replicate k (48 : Int)) = 10 ^ k := by
    rw [dv_cons, dv_zeros, List.length_replicate]
    omega
  have := eq_tx d
  rw [l, v] at this
  exact this.symm

/-- What Figures tells of a double that is not 0. -/
theorem fig_facts {d : Int} {k : Nat} (hf : Ie.fnt d = true) (hm : 0 < Ie.dm d) (h1 : 1 ≤ k) (h2 : k ≤ 4200) :
    (gS d k).length = k ∧ Digs (gS d k) ∧ (gS d k).getD 0 0 ≠ 48 ∧ -324 ≤ gK d k ∧ gK d k ≤ 308 ∧
    (∀ q : Nat, (q : Int) = k - 1 - gK d k → ∃ z, W d q = List.replicate z 48 ++ gS d k) := by
  have r : rf d k 1 = 0 := rf_zero.2 ⟨hf, by omega, by omega⟩
  obtain ⟨m0, m1, e0, e1, _⟩ := Ie.fdec d (of_decide_eq_true hf)
  have ex := X_ex hf
  have nm := ex.nml hm
  obtain ⟨r1, r2, r3⟩ := ex.room hm m1 e1
  obtain ⟨-, -, p3, p4, p5⟩ := X_room hf
  have rX : (X d).length + P d ≤ 309 := r2
  unfold gS gK
  rw [if_pos r, if_pos r, Int.toNat_natCast]
  rcases Nat.lt_or_ge k (X d).length with g | g
  · rw [kp_cut g]
    have hl := rd_len (X d) k
    have hh := rd_head nm (show 0 < k by omega) (show k ≤ (X d).length by omega)
    have dd := rd_digs (X d) k
    obtain ⟨j, rfl⟩ : ∃ j, k = j + 1 := ⟨k - 1, by omega⟩
    by_cases c : rn (X d) (j + 1) = 10 ^ (j + 1)
    · rw [if_pos c] at hl
      have rdv : rd (X d) (j + 1) = 49 :: List.replicate (j + 1) 48 := by unfold rd; rw [c, if_pos rfl, tx_ten]
      have lt308 : (X d).length + P d ≠ 309 := by
        intro hE
        have b := r3 hE
        have dk : Digs ((X d).take (j + 1)) := fun x g => nm.digs x (List.mem_of_mem_take g)
        have lk : ((X d).take (j + 1)).length = j + 1 := by rw [List.length_take]; omega
        have T : 10 ^ (j + 1) - 1 ≤ dv ((X d).take (j + 1)) := by unfold rn at c; split at c <;> omega
        have e : dv (X d) = dv ((X d).take (j + 1)) * 10 ^ ((X d).length - (j + 1)) + dv ((X d).drop (j + 1)) := by
          conv => lhs; rw [← List.take_append_drop (j + 1) (X d), dv_append, List.length_drop]
        have b2 := (dv_bd (ds := (X d).drop (j + 1)) (fun x g => nm.digs x (List.mem_of_mem_drop g))).1
        have pz := p_pos ((X d).length - (j + 1))
        have f1 : (10 ^ (j + 1) - 1) * 10 ^ ((X d).length - (j + 1)) ≤ dv ((X d).take (j + 1)) * 10 ^ ((X d).length - (j + 1)) := Int.mul_le_mul_of_nonneg_right T (Int.le_of_lt pz)
        have f2 : (X d).length - 1 = j + ((X d).length - (j + 1)) := by omega
        rw [f2, Int.pow_add] at b
        have f3 : ((9 : Int) * 10 ^ j) * 10 ^ ((X d).length - (j + 1)) ≤ (10 ^ (j + 1) - 1) * 10 ^ ((X d).length - (j + 1)) := by
          refine Int.mul_le_mul_of_nonneg_right ?_ (Int.le_of_lt pz)
          rw [Int.pow_succ]
          have := p_pos j
          omega
        have f4 : 0 < 10 ^ j * (10 : Int) ^ ((X d).length - (j + 1)) := Int.mul_pos (p_pos j) pz
        rw [Int.mul_assoc] at f3
        generalize 10 ^ j * (10 : Int) ^ ((X d).length - (j + 1)) = y at *
        omega
      rw [if_pos (by rw [hl]; omega), rdv]
      have tk : (49 :: List.replicate (j + 1) (48 : Int)).take (j + 1) = 49 :: List.replicate j 48 := by
        rw [List.take_succ_cons, List.take_replicate, Nat.min_eq_left (by omega)]
      rw [tk]
      refine ⟨by simp, ?_, by simp, by omega, by omega, ?_⟩
      · intro x h
        rcases List.mem_cons.1 h with rfl | h
        · omega
        · have := List.eq_of_mem_replicate h; omega
      · intro q hq
        refine ⟨q + 1 - (j + 1), ?_⟩
        have cq : ((X d).length : Int) + P d + q = (j : Int) := by omega
        unfold W
        rw [cq, kp_cut (by omega)]
        have rj := rn_carry nm.digs (show j < (X d).length by omega) c
        have rdj : rd (X d) j = 49 :: List.replicate j 48 := by unfold rd; rw [rj, if_pos rfl, tx_ten]
        rw [rdj]
        simp
    · rw [if_neg c] at hl
      rw [if_neg (by rw [hl]; omega), List.take_of_length_le (by omega)]
      refine ⟨hl, dd, hh, by omega, by omega, ?_⟩
      intro q hq
      refine ⟨q + 1 - (j + 1), ?_⟩
      have cq : ((X d).length : Int) + P d + q = ((j + 1 : Nat) : Int) := by omega
      unfold W
      rw [cq, kp_cut g, hl]
  · rw [kp_full g]
    have hl : (X d ++ List.replicate (k - (X d).length) 48).length = k := by rw [List.length_append, List.length_replicate]; omega
    rw [if_neg (by rw [hl]; omega), List.take_of_length_le (by omega)]
    refine ⟨hl, ?_, ?_, by omega, by omega, ?_⟩
    · intro x h
      rcases List.mem_append.1 h with h | h
      · exact nm.digs x h
      · have := List.eq_of_mem_replicate h; omega
    · have := nm.head
      obtain ⟨j, hj⟩ := nm.len
      match hx : X d, hj with
      | x :: ys, _ => rw [hx] at this; simpa using this
    · intro q hq
      refine ⟨q + 1 - k, ?_⟩
      have cq : ((X d).length : Int) + P d + q = (k : Int) := by omega
      unfold W
      rw [cq, kp_full g, hl]

theorem fig_zero {d : Int} {k : Nat} (hf : Ie.fnt d = true) (hm : Ie.dm d = 0) (h1 : 1 ≤ k) (h2 : k ≤ 4200) : gS d k = List.replicate k 48 ∧ gK d k = 0 := by
  have r : rf d k 1 = 0 := rf_zero.2 ⟨hf, by omega, by omega⟩
  obtain ⟨a, b⟩ := X_zero hf hm
  have e : kp [48] (k : Int) = List.replicate k 48 := by
    rw [kp_full (by simp; omega)]
    obtain ⟨j, rfl⟩ : ∃ j, k = j + 1 := ⟨k - 1, by omega⟩
    rw [List.replicate_succ]
    simp
  unfold gS gK
  rw [if_pos r, if_pos r, a, b, e, Int.toNat_natCast]
  simp

end Fx
end Go.Proofs.YtigmhnlcmhpepaaGreatDoor

namespace Go.Proofs.YtigmhnlcmhpepaaGreatDoor
open Go Go.RowKit Go.Deep
namespace Fx

end Fx
end Go.Proofs.YtigmhnlcmhpepaaGreatDoor

namespace Go.Proofs.YtigmhnlcmhpepaaGreatDoor
open Go Go.RowKit Go.Deep
namespace Po

/-- The verbs of capitals; those that Render renders. -/
def cap (V : Int) : Bool := decide (V = 69 ∨ V = 70 ∨ V = 71 ∨ V = 88)
def okV (V : Int) : Bool := decide (V = 101 ∨ V = 69 ∨ V = 102 ∨ V = 70 ∨ V = 103 ∨ V = 71)
def ng (d : Int) : Bool := decide (9223372036854775808 ≤ d)
/-- The body of an infinity or a NaN. -/
def nm (c : Bool) (k : Int) : List Int := if k = 3 then (if c = true then [73, 78, 70] else [105, 110, 102]) else if k = 4 then (if c = true then [78, 65, 78] else [110, 97, 110]) else []
/-- An exponent as it is written. -/
def xd (k : Int) : List Int := (if k < 0 then 45 else 43) :: Wh.fil 2 (Wh.dig 10 false (max k (-k)))
def ex (V k : Int) : List Int := (if cap V = true then 69 else 101) :: xd k
/-- Digits ahead and behind, and an exponent. -/
def wrt (a b p : List Int) (h : Bool) : List Int := if b = [] ∧ h = false then a ++ p else a ++ 46 :: (b ++ p)
/-- Without the zeros at the end. -/
def sp : List Int → List Int
  | [] => []
  | x :: xs => if x = 48 ∧ sp xs = [] then [] else x :: sp xs
def st (h : Bool) (xs : List Int) : List Int := if h = true then xs else sp xs

noncomputable def bdF (h : Bool) (d n : Int) : List Int := wrt (Fx.pA d n) (Fx.pB d n) [] h
noncomputable def bdE (V : Int) (h : Bool) (d n : Int) : List Int := wrt ((Fx.gS d (n + 1)).take 1) ((Fx.gS d (n + 1)).drop 1) (ex V (Fx.gK d (n + 1))) h
noncomputable def bdG (V : Int) (h : Bool) (d n : Int) : List Int :=
  if -4 ≤ Fx.gK d n ∧ Fx.gK d n < n then wrt (Fx.pA d (n - 1 - Fx.gK d n)) (st h (Fx.pB d (n - 1 - Fx.gK d n))) [] h
  else wrt ((Fx.gS d n).take 1) (st h ((Fx.gS d n).drop 1)) (ex V (Fx.gK d n)) h
def pr (P : Int) : Int := if P = -1 then 6 else P
noncomputable def bd (V : Int) (h : Bool) (P d : Int) : List Int :=
  if V = 102 ∨ V = 70 then bdF h d (pr P) else if V = 101 ∨ V = 69 then bdE V h d (pr P) else bdG V h d (max (pr P) 1)

/-- Special, Render. -/
def spc (V F W P d : Int) : List Int := if Wh.chk F W P = 0 ∧ Ie.fnt d = false then Wh.padT F W false (Wh.sgn F (ng d)) (nm (cap V) (Ie.cls d)) else []
def spb (F W P d : Int) : Bool := decide (Wh.chk F W P = 0) && !Ie.fnt d
def renE (V F W P : Int) : Int := if okV V = true then Wh.chk F W P else 140
noncomputable def ren (V F W P d : Int) : List Int :=
  if renE V F W P = 0 then (if Ie.fnt d = true then Wh.padT F W true (Wh.sgn F (ng d)) (bd V (Wh.bit F 8) P d) else Wh.padT F W false (Wh.sgn F (ng d)) (nm (cap V) (Ie.cls d))) else []

theorem pr_bd {P : Int} (h0 : -1 ≤ P) (h1 : P ≤ 4096) : 0 ≤ pr P ∧ pr P ≤ 4096 := by unfold pr; split <;> omega

/-- What is left of a row when the zeros at its end are gone. -/
theorem sp_of : ∀ {xs : List Int} {k : Nat}, k ≤ xs.length → (∀ i, k ≤ i → i < xs.length → xs.getD i 0 = 48) → (0 < k → xs.getD (k - 1) 0 ≠ 48) → xs.take k = sp xs
  | [], k, _, _, _ => by simp [sp]
  | x :: xs, 0, _, h2, _ => by
    have e := sp_of (xs := xs) (k := 0) (by omega) (fun i h1 hi => by have := h2 (i + 1) (by omega) (by simp; omega); simpa using this) (fun h => by omega)
    have e0 : x = 48 := by simpa using h2 0 (by omega) (by simp)
    rw [List.take_zero] at e
    rw [sp, if_pos ⟨e0, e.symm⟩]; rfl
  | x :: xs, k + 1, h1, h2, h3 => by
    have e := sp_of (xs := xs) (k := k) (by simpa using h1) (fun i h4 hi => by have := h2 (i + 1) (by omega) (by simp; omega); simpa using this) (fun h => by
      have := h3 (by omega)
      obtain ⟨j, rfl⟩ : ∃ j, k = j + 1 := ⟨k - 1, by omega⟩
      simpa using this)
    rw [List.take_succ_cons, sp]
    rw [if_neg, e]
    rintro ⟨c1, c2⟩
    rw [← e] at c2
    have k0 : k = 0 := by
      rcases Nat.eq_zero_or_pos k with c | c
      · exact c
      · have : (xs.take k).length = 0 := by rw [c2]; rfl
        rw [List.length_take] at this
        simp at h1
        omega
    subst k0
    have := h3 (by omega)
    simp at this
    exact this c1
theorem sp_take : ∀ (xs : List Int), ∃ k, k ≤ xs.length ∧ sp xs = xs.take k ∧ (∀ i, k ≤ i → i < xs.length → xs.getD i 0 = 48) ∧ (0 < k → xs.getD (k - 1) 0 ≠ 48)
  | [] => ⟨0, by simp, by simp [sp], fun i _ h => by simp at h, fun h => by omega⟩
  | x :: xs => by
    obtain ⟨k, a, b, c, e⟩ := sp_take xs
    by_cases h : x = 48 ∧ sp xs = []
    · refine ⟨0, by omega, by rw [sp, if_pos h]; rfl, fun i _ hi => ?_, fun h => by omega⟩
      have k0 : k = 0 := by
        rcases Nat.eq_zero_or_pos k with q | q
        · exact q
        · have : (xs.take k).length = 0 := by rw [← b, h.2]; rfl
          rw [List.length_take] at this
          omega
      cases i with
      | zero => simpa using h.1
      | succ i => have := c i (by omega) (by simpa using hi); simpa using this
    · refine ⟨k + 1, by simp; omega, by rw [sp, if_neg h, b, List.take_succ_cons], fun i h1 hi => ?_, fun _ => ?_⟩
      · cases i with
        | zero => omega
        | succ i => have := c i (by omega) (by simpa using hi); simpa using this
      · cases k with
        | zero =>
          rw [List.take_zero] at b
          simp
          intro q
          exact h ⟨q, b⟩
        | succ k => have := e (by omega); simpa using this
theorem sp_len (xs : List Int) : (sp xs).length ≤ xs.length := by
  obtain ⟨k, a, b, _⟩ := sp_take xs
  rw [b, List.length_take]; omega
theorem sp_mem {xs : List Int} {x : Int} (h : x ∈ sp xs) : x ∈ xs := by
  obtain ⟨k, a, b, _⟩ := sp_take xs
  rw [b] at h
  exact List.mem_of_mem_take h
theorem st_len (h : Bool) (xs : List Int) : (st h xs).length ≤ xs.length := by unfold st; split; exact Nat.le_refl _; exact sp_len xs
theorem st_mem {h : Bool} {xs : List Int} {x : Int} (k : x ∈ st h xs) : x ∈ xs := by
  unfold st at k; split at k
  · exact k
  · exact sp_mem k

/-- Digits as bytes. -/
theorem digs_by {xs : List Int} (h : Digs xs) : Wh.By xs := fun x hx => by have := h x hx; omega
theorem digs_take {xs : List Int} (h : Digs xs) (k : Nat) : Digs (xs.take k) := fun x hx => h x (List.mem_of_mem_take hx)
theorem digs_drop {xs : List Int} (h : Digs xs) (k : Nat) : Digs (xs.drop k) := fun x hx => h x (List.mem_of_mem_drop hx)
theorem digs_st {xs : List Int} (b : Bool) (h : Digs xs) : Digs (st b xs) := fun x hx => h x (st_mem hx)

/-- What Places and Figures tell of a finite double. -/
structure PlF (d n : Int) : Prop where
  ok : Fx.rf d n 0 = 0
  a : Digs (Fx.pA d n)
  b : Digs (Fx.pB d n)
  ane : Fx.pA d n ≠ []
  la : (Fx.pA d n).length ≤ 6000
  lb : ((Fx.pB d n).length : Int) = n
theorem plF {d n : Int} (hf : Ie.fnt d = true) (h0 : 0 ≤ n) (h1 : n ≤ 4200) : PlF d n := by
  have r : Fx.rf d n 0 = 0 := Fx.rf_zero.2 ⟨hf, h0, h1⟩
  have wl := Fx.W_len d n.toNat
  have wd := Fx.W_digs hf n.toNat
  have wr := Fx.dv_W_room hf (n := n.toNat) (by omega)
  refine ⟨r, ?_, ?_, ?_, ?_, ?_⟩
  · rw [Fx.pA, if_pos r]; exact digs_take wd _
  · rw [Fx.pB, if_pos r]; exact digs_drop wd _
  · rw [Fx.pA, if_pos r]
    intro c
    have : ((Fx.W d n.toNat).take ((Fx.W d n.toNat).length - n.toNat)).length = 0 := by rw [c]; rfl
    rw [List.length_take] at this
    omega
  · rw [Fx.pA, if_pos r, List.length_take]; omega
  · rw [Fx.pB, if_pos r, List.length_drop]; omega

structure FgF (d n : Int) : Prop where
  ok : Fx.rf d n 1 = 0
  s : Digs (Fx.gS d n)
  len : ((Fx.gS d n).length : Int) = n
  lo : -324 ≤ Fx.gK d n
  hi : Fx.gK d n ≤ 308
theorem fgF {d n : Int} (hf : Ie.fnt d = true) (h0 : 1 ≤ n) (h1 : n ≤ 4200) : FgF d n := by
  obtain ⟨k, rfl⟩ := Int.eq_ofNat_of_zero_le (show 0 ≤ n by omega)
  have r : Fx.rf d k 1 = 0 := Fx.rf_zero.2 ⟨hf, h0, h1⟩
  rcases (show Ie.dm d = 0 ∨ 0 < Ie.dm d by have := (Ie.fdec d (of_decide_eq_true hf)).1; omega) with c | c
  · obtain ⟨a, b⟩ := Fx.fig_zero hf c (k := k) (by omega) (by omega)
    refine ⟨r, ?_, by rw [a]; simp, by omega, by omega⟩
    rw [a]
    intro x hx
    have := List.eq_of_mem_replicate hx
    omega
  · obtain ⟨a, b, _, e, f, _⟩ := Fx.fig_facts hf c (k := k) (by omega) (by omega)
    exact ⟨r, b, by rw [a], e, f⟩

/-- An exponent's digits. -/
theorem dig3 {v : Int} (h0 : 0 < v) (h1 : v < 1000) : Wh.dig 10 false v = lets (lettersOf false) (Dn.strip (Dn.dg 10 3 v)) := by
  have hz : Nm.Limbs [v] := by intro x hx; simp at hx; omega
  have hv : Nm.val [v] = v := by simp [Nm.val]
  have ts : Nm.tsize [v] ≤ 1 := by have := Nm.tsize_le [v]; simpa using this
  have tp : 0 < Nm.tsize [v] := by have := Nm.tsize_zero_iff hz; omega
  have q := Wh.dig_is (up := false) (B := 10) hz (by rw [hv]; exact h0) (by omega) (by omega) (by omega) (InIs.ok (up := false) 3 tp (by omega) (by omega) (by omega) (by rw [hv]; exact h1))
  rw [hv] at q
  exact q.1.symm
set_option maxRecDepth 100000 in
theorem xdig {v : Int} (h0 : 0 ≤ v) (h1 : v ≤ 400) : Wh.fil 2 (Wh.dig 10 false v) = Fx.tx (if v < 100 then 2 else 3) v := by
  rcases (show v = 0 ∨ 0 < v by omega) with c | c
  · subst c; decide
  · rw [dig3 c (by omega)]
    have key : ∀ t : Fin 401, 0 < t.val → Wh.fil 2 (lets (lettersOf false) (Dn.strip (Dn.dg 10 3 (t.val : Int)))) = Fx.tx (if (t.val : Int) < 100 then 2 else 3) (t.val : Int) := by decide +kernel
    have := key ⟨v.toNat, by omega⟩ (by simp; omega)
    simp only at this
    rw [show ((v.toNat : Nat) : Int) = v by omega] at this
    exact this
theorem xd_is {k : Int} (h0 : -400 ≤ k) (h1 : k ≤ 400) : xd k = (if k < 0 then 45 else 43) :: Fx.tx (if max k (-k) < 100 then 2 else 3) (max k (-k)) := by
  rw [xd, xdig (by omega) (by omega)]
theorem xd_len {k : Int} (h0 : -400 ≤ k) (h1 : k ≤ 400) : (xd k).length ≤ 4 := by
  rw [xd_is h0 h1, List.length_cons, Fx.tx_len]; split <;> omega
theorem xd_by (k : Int) : Wh.By (xd k) := by
  unfold xd
  exact Wh.By.cons (by split <;> omega) (Wh.fil_by (Wh.dig_by _ _ _))
theorem ex_by (V k : Int) : Wh.By (ex V k) := by
  unfold ex
  exact Wh.By.cons (by split <;> omega) (xd_by k)
theorem ex_len {V k : Int} (h0 : -400 ≤ k) (h1 : k ≤ 400) : (ex V k).length ≤ 5 := by
  rw [ex, List.length_cons]; have := xd_len h0 h1; omega
theorem wrt_by {a b p : List Int} {h : Bool} (ha : Wh.By a) (hb : Wh.By b) (hp : Wh.By p) : Wh.By (wrt a b p h) := by
  unfold wrt
  split
  · exact ha.app hp
  · exact ha.app (Wh.By.cons (by omega) (hb.app hp))
theorem wrt_len (a b p : List Int) (h : Bool) : (wrt a b p h).length ≤ a.length + b.length + p.length + 1 := by
  unfold wrt
  split <;> simp <;> omega

/-- The body of a finite double is short, and made of bytes. -/
theorem bd_ok {V P d : Int} (h : Bool) (hf : Ie.fnt d = true) (p0 : -1 ≤ P) (p1 : P ≤ 4096) : Wh.By (bd V h P d) ∧ (bd V h P d).length ≤ 20000 := by
  obtain ⟨q0, q1⟩ := pr_bd p0 p1
  unfold bd
  split
  · have k := plF hf q0 (by omega)
    refine ⟨wrt_by (digs_by k.a) (digs_by k.b) Wh.By.nil, ?_⟩
    have := wrt_len (Fx.pA d (pr P)) (Fx.pB d (pr P)) [] h
    have := k.la
    have := k.lb
    simp only [List.length_nil, bdF] at *
    omega
  · split
    · have k := fgF hf (n := pr P + 1) (by omega) (by omega)
      refine ⟨wrt_by (digs_by (digs_take k.s _)) (digs_by (digs_drop k.s _)) (ex_by _ _), ?_⟩
      have := wrt_len ((Fx.gS d (pr P + 1)).take 1) ((Fx.gS d (pr P + 1)).drop 1) (ex V (Fx.gK d (pr P + 1))) h
      have := k.len
      have := ex_len (V := V) (k := Fx.gK d (pr P + 1)) (by have := k.lo; omega) (by have := k.hi; omega)
      simp only [bdE, List.length_take, List.length_drop] at *
      omega
    · have k := fgF hf (n := max (pr P) 1) (by omega) (by omega)
      unfold bdG
      split
      · rename_i g
        have j := plF hf (n := max (pr P) 1 - 1 - Fx.gK d (max (pr P) 1)) (by omega) (by omega)
        refine ⟨wrt_by (digs_by j.a) (digs_by (digs_st h j.b)) Wh.By.nil, ?_⟩
        have := wrt_len (Fx.pA d (max (pr P) 1 - 1 - Fx.gK d (max (pr P) 1))) (st h (Fx.pB d (max (pr P) 1 - 1 - Fx.gK d (max (pr P) 1)))) [] h
        have := j.la
        have := j.lb
        have := st_len h (Fx.pB d (max (pr P) 1 - 1 - Fx.gK d (max (pr P) 1)))
        simp only [List.length_nil] at *
        omega
      · refine ⟨wrt_by (digs_by (digs_take k.s _)) (digs_by (digs_st h (digs_drop k.s _))) (ex_by _ _), ?_⟩
        have := wrt_len ((Fx.gS d (max (pr P) 1)).take 1) (st h ((Fx.gS d (max (pr P) 1)).drop 1)) (ex V (Fx.gK d (max (pr P) 1))) h
        have := st_len h ((Fx.gS d (max (pr P) 1)).drop 1)
        have := k.len
        have := ex_len (V := V) (k := Fx.gK d (max (pr P) 1)) (by have := k.lo; omega) (by have := k.hi; omega)
        simp only [List.length_take, List.length_drop] at *
        omega
theorem nm_by (c : Bool) (k : Int) : Wh.By (nm c k) := by
  unfold nm
  cases c <;> (split <;> first | (intro x hx; simp at hx; omega) | (split <;> first | (intro x hx; simp at hx; omega) | exact Wh.By.nil))
theorem nm_len (c : Bool) (k : Int) : (nm c k).length ≤ 3 := by
  unfold nm
  split
  · split <;> simp
  · split
    · split <;> simp
    · simp
end Po
end Go.Proofs.YtigmhnlcmhpepaaGreatDoor

namespace Go.Proofs.YtigmhnlcmhpepaaGreatDoor
open Go Go.RowKit Go.Deep Go.Shelf

/-- A flag, of any number. -/
def Po.hb (F k : Int) : Bool := bits .and .i64 F k != 0
theorem Po.hb_is {F k : Int} (h0 : 0 ≤ F) (h1 : F ≤ 31) (hk : k = 1 ∨ k = 2 ∨ k = 4 ∨ k = 8 ∨ k = 16) : Po.hb F k = Wh.bit F k := by
  unfold Po.hb
  rcases bit_and F k h0 h1 hk with ⟨e, q⟩ | ⟨e, q⟩
  · rw [e, q]; rfl
  · rw [q]; simpa using e
def Po.sx (F : Int) (n : Bool) : List Int := if n = true then [45] else if Po.hb F 2 = true then [43] else if Po.hb F 4 = true then [32] else []
theorem Po.sx_is {F : Int} (n : Bool) (h0 : 0 ≤ F) (h1 : F ≤ 31) : Po.sx F n = Wh.sgn F n := by
  unfold Po.sx Wh.sgn
  rw [Po.hb_is h0 h1 (by omega), Po.hb_is h0 h1 (by omega)]
theorem Po.sx_by (F : Int) (n : Bool) : Wh.By (Po.sx F n) ∧ (Po.sx F n).length ≤ 1 := by
  unfold Po.sx
  split
  · exact ⟨fun x hx => by simp at hx; omega, by simp⟩
  · split
    · exact ⟨fun x hx => by simp at hx; omega, by simp⟩
    · split
      · exact ⟨fun x hx => by simp at hx; omega, by simp⟩
      · exact ⟨Wh.By.nil, by simp⟩

set_option maxRecDepth 100000 in
theorem phas_any (V F W P k : Int) (w : World) :
    Calls Tryz.prog 153 #[.agg #[.int .u8 V, .int .i64 F, .int .i64 W, .int .i64 P], .int .i64 k] w fun e w' => e = .returned (.bool (Po.hb F k)) ∧ Below w.heap.size w w' := by
  have B := hid (alloc_b w (.cells #[.int .u8 V, .int .i64 F, .int .i64 W, .int .i64 P] 141))
  go_enter Tryz.func153, Tryz.ntmps153
  go_wp2_with fail
  go_ret
  exact ⟨rfl, B.out⟩

set_option maxRecDepth 100000 in
theorem cap_ix (V : Int) (h0 : 0 ≤ V) (h1 : V < 256) : decide (0 ≤ Lib.indexByte (⟨#[69, 70, 71, 88]⟩ : ByteArray).data.toList V.toNat.toUInt8) = Po.cap V := by
  have key : ∀ t : Fin 256, decide (0 ≤ Lib.indexByte [69, 70, 71, 88] (t.val : Int).toNat.toUInt8) = Po.cap (t.val : Int) := by decide
  have := key ⟨V.toNat, by omega⟩
  simp only at this
  rw [show ((V.toNat : Nat) : Int) = V by omega] at this
  exact this
set_option maxRecDepth 100000 in
theorem ok_ix (V : Int) (h0 : 0 ≤ V) (h1 : V < 256) : decide (Lib.indexByte (⟨#[101, 69, 102, 70, 103, 71]⟩ : ByteArray).data.toList V.toNat.toUInt8 < 0) = !Po.okV V := by
  have key : ∀ t : Fin 256, decide (Lib.indexByte [101, 69, 102, 70, 103, 71] (t.val : Int).toNat.toUInt8 < 0) = !Po.okV (t.val : Int) := by decide
  have := key ⟨V.toNat, by omega⟩
  simp only at this
  rw [show ((V.toNat : Nat) : Int) = V by omega] at this
  exact this

set_option maxRecDepth 100000 in
theorem pcap_any (V : Int) (w : World) (h0 : 0 ≤ V) (h1 : V < 256) :
    Calls Tryz.prog 178 #[.int .u8 V] w fun e w' => e = .returned (.bool (Po.cap V)) ∧ w' = w := by
  have IX := hid (fun w => Any.strings_IndexByte idxLays ⟨#[69, 70, 71, 88]⟩ V w)
  have E := hid (cap_ix V h0 h1)
  generalize Lib.indexByte (⟨#[69, 70, 71, 88]⟩ : ByteArray).data.toList V.toNat.toUInt8 = x at *
  clear h0 h1
  go_enter Tryz.func178, Tryz.ntmps178
  go_wp2_with (go_at_call 91; refine (IX.out _).mono ?_; rintro e w2 ⟨rfl, rfl⟩)
  go_ret
  exact ⟨fretB E.out, rfl⟩

set_option maxRecDepth 100000 in
theorem pfin_any (d : Int) (w : World) (h0 : 0 ≤ d) (h1 : d < 18446744073709551616) :
    Calls Tryz.prog 147 #[.int .u64 d] w fun e w' => e = .returned (.bool (Ie.fnt d)) ∧ w' = w := by
  have C := hid (class_any d w h0 h1)
  have E : Hid (Ie.fnt d = decide (Ie.cls d < 3)) := rfl
  generalize Ie.cls d = c at *
  go_enter Tryz.func147, Tryz.ntmps147
  go_wp2_with fail
  refine C.out.mono ?_
  rintro e w' ⟨rfl, rfl⟩
  go_wp2_with fail
  go_ret
  exact ⟨fretB E.out.symm, rfl⟩

set_option maxRecDepth 100000 in
theorem psign_any (V F W P d : Int) (w : World) (h0 : 0 ≤ d) (h1 : d < 18446744073709551616) :
    Calls Tryz.prog 120 #[.agg #[.int .u8 V, .int .i64 F, .int .i64 W, .int .i64 P], .int .u64 d] w fun e w' => e = .returned (.string (strOfNums (Po.sx F (Po.ng d)))) ∧ Below w.heap.size w w' := by
  have B := hid (SB.new w V F W P)
  have DC := hid (fun wx => decode_any d wx h0 h1)
  have H2 := hid (fun W' => phas_any V F W P 2 W')
  have H4 := hid (fun W' => phas_any V F W P 4 W')
  unfold partsOf at DC
  have E : Hid (Po.sx F (Po.ng d) = if Po.ng d = true then [45] else if Po.hb F 2 = true then [43] else if Po.hb F 4 = true then [32] else []) := rfl
  rw [← Po.ng] at DC
  generalize Po.ng d = n at *
  generalize Po.hb F 2 = b2 at *
  generalize Po.hb F 4 = b4 at *
  generalize Po.sx F n = R at *
  generalize Ie.cls d = c at *
  generalize Ie.dm d = m at *
  generalize Ie.de d = ee at *
  have FD : ∀ wx : World, (Instr.field 220 (.agg #[.bool n, .int .i64 c, .int .u64 m, .int .i64 ee]) 0).run Tryz.prog wx = .ok (.bool n) wx := fun _ => by kernel_rfl
  clear h0 h1
  cases n with
  | true =>
    have E2 : Hid (strOfNums [45] = strOfNums R) := by rw [Hid, E.out]; rfl
    clear E
    go_enter Tryz.func120, Tryz.ntmps120
    go_wp2_with fail
    refine (DC.out _).mono ?_
    rintro e w1 ⟨rfl, b1⟩
    have B1 := hid (B.out.on b1)
    clear b1 B
    go_wp2_with fail
    go_ret
    exact ⟨ret_str E2.out, B1.out.bel⟩
  | false =>
    cases b2 with
    | true =>
      have E2 : Hid (strOfNums [43] = strOfNums R) := by rw [Hid, E.out]; rfl
      clear E
      go_enter Tryz.func120, Tryz.ntmps120
      go_wp2_with fail
      refine (DC.out _).mono ?_
      rintro e w1 ⟨rfl, b1⟩
      have B1 := hid (B.out.on b1)
      clear b1 B
      obtain ⟨c0, c1, c2, c3⟩ := B1.out.flat
      go_wp2_with fail
      refine (H2.out _).mono ?_
      rintro e w2 ⟨rfl, b2⟩
      have B2 := hid (B1.out.on b2)
      clear b2 B1 c0 c1 c2 c3
      go_wp2_with fail
      go_ret
      exact ⟨ret_str E2.out, B2.out.bel⟩
    | false =>
      have E2 : Hid ((b4 = true → strOfNums [32] = strOfNums R) ∧ (b4 = false → strOfNums [] = strOfNums R)) := by
        constructor
        · rintro rfl; rw [E.out]; rfl
        · rintro rfl; rw [E.out]; rfl
      clear E
      go_enter Tryz.func120, Tryz.ntmps120
      go_wp2_with fail
      refine (DC.out _).mono ?_
      rintro e w1 ⟨rfl, b1⟩
      have B1 := hid (B.out.on b1)
      clear b1 B
      obtain ⟨c0, c1, c2, c3⟩ := B1.out.flat
      go_wp2_with fail
      refine (H2.out _).mono ?_
      rintro e w2 ⟨rfl, b2⟩
      have B2 := hid (B1.out.on b2)
      clear b2 B1 c0 c1 c2 c3
      obtain ⟨c0, c1, c2, c3⟩ := B2.out.flat
      go_wp2_with fail
      refine (H4.out _).mono ?_
      rintro e w3 ⟨rfl, b3⟩
      have B3 := hid (B2.out.on b3)
      clear b3 B2 c0 c1 c2 c3
      cases b4 with
      | true =>
        have E3 := hid (E2.out.1 rfl)
        clear E2
        go_wp2_with fail
        go_ret
        exact ⟨ret_str E3.out, B3.out.bel⟩
      | false =>
        have E3 := hid (E2.out.2 rfl)
        clear E2
        go_wp2_with fail
        go_ret
        exact ⟨ret_str E3.out, B3.out.bel⟩

/-- A short name in capitals. -/
theorem pup_any (xs ys : List Int) (w : World) (h : (xs, ys) = ([], []) ∨ (xs, ys) = ([105, 110, 102], [73, 78, 70]) ∨ (xs, ys) = ([110, 97, 110], [78, 65, 78])) :
    Calls Tryz.prog 179 #[.string (strOfNums xs)] w fun e w' => e = .returned (.string (strOfNums ys)) ∧ Below w.heap.size w w' := by
  have ha : ∀ (j : Nat) (b : UInt8), (strOfNums xs).data.toList[j]? = some b → b.toNat < 128 := by
    intro j b hb
    have hm := List.mem_of_getElem? hb
    rcases h with h | h | h
    · obtain ⟨rfl, rfl⟩ := Prod.mk.inj h
      simp [strOfNums] at hm
    · obtain ⟨rfl, rfl⟩ := Prod.mk.inj h
      simp [strOfNums] at hm
      rcases hm with rfl | rfl | rfl <;> decide
    · obtain ⟨rfl, rfl⟩ := Prod.mk.inj h
      simp [strOfNums] at hm
      rcases hm with rfl | rfl | rfl <;> decide
  refine (Any.strings_ToUpper_ascii upLays jExtra (strOfNums xs) w (by rw [strOfNums_size]; rcases h with h | h | h <;> (obtain ⟨rfl, rfl⟩ := Prod.mk.inj h; simp)) ha).mono ?_
  rintro e w' ⟨rfl, k⟩
  refine ⟨ret_str ?_, k⟩
  rcases h with h | h | h <;> (obtain ⟨rfl, rfl⟩ := Prod.mk.inj h; decide)

set_option maxRecDepth 100000 in
theorem pname_any (V d : Int) (w : World) (v0 : 0 ≤ V) (v1 : V < 256) (h0 : 0 ≤ d) (h1 : d < 18446744073709551616) :
    Calls Tryz.prog 146 #[.int .u8 V, .int .u64 d] w fun e w' => e = .returned (.string (strOfNums (Po.nm (Po.cap V) (Ie.cls d)))) ∧ Below w.heap.size w w' := by
  have C := hid (fun wx => class_any d wx h0 h1)
  have CP := hid (fun wx => pcap_any V wx v0 v1)
  have U0 : Hid (∀ wx, Calls Tryz.prog 179 #[.string ⟨#[]⟩] wx fun e w' => e = .returned (.string (strOfNums [])) ∧ Below wx.heap.size wx w') := fun wx => pup_any [] [] wx (.inl rfl)
  have U1 : Hid (∀ wx, Calls Tryz.prog 179 #[.string ⟨#[105, 110, 102]⟩] wx fun e w' => e = .returned (.string (strOfNums [73, 78, 70])) ∧ Below wx.heap.size wx w') := fun wx => pup_any [105, 110, 102] [73, 78, 70] wx (.inr (.inl rfl))
  have U2 : Hid (∀ wx, Calls Tryz.prog 179 #[.string ⟨#[110, 97, 110]⟩] wx fun e w' => e = .returned (.string (strOfNums [78, 65, 78])) ∧ Below wx.heap.size wx w') := fun wx => pup_any [110, 97, 110] [78, 65, 78] wx (.inr (.inr rfl))
  have E : ∀ (b : Bool) (k : Int), Hid (Po.nm b k = if k = 3 then (if b = true then [73, 78, 70] else [105, 110, 102]) else if k = 4 then (if b = true then [78, 65, 78] else [110, 97, 110]) else []) := fun _ _ => rfl
  have E := E (Po.cap V) (Ie.cls d)
  generalize Ie.cls d = c at *
  generalize Po.cap V = b at *
  generalize Po.nm b c = R at *
  clear h0 h1 v0 v1
  by_cases c3 : c = 3
  · subst c3
    cases b with
    | true =>
      have E2 : Hid (strOfNums [73, 78, 70] = strOfNums R) := by rw [Hid, E.out]; rfl
      clear E
      go_enter Tryz.func146, Tryz.ntmps146
      go_wp2_with (first | (go_at_call 54; refine (C.out _).mono ?_; rintro e w' ⟨rfl, hw⟩; rw [hw]; clear hw w') | (go_at_call 178; refine (CP.out _).mono ?_; rintro e w' ⟨rfl, hw⟩; rw [hw]; clear hw w'))
      refine (U1.out _).mono ?_
      rintro e w1 ⟨rfl, b1⟩
      have B1 := hid b1
      clear b1
      go_wp2_with fail
      go_ret
      exact ⟨ret_str E2.out, B1.out⟩
    | false =>
      have E2 : Hid (strOfNums [105, 110, 102] = strOfNums R) := by rw [Hid, E.out]; rfl
      clear E
      go_enter Tryz.func146, Tryz.ntmps146
      go_wp2_with (first | (go_at_call 54; refine (C.out _).mono ?_; rintro e w' ⟨rfl, hw⟩; rw [hw]; clear hw w') | (go_at_call 178; refine (CP.out _).mono ?_; rintro e w' ⟨rfl, hw⟩; rw [hw]; clear hw w'))
      go_ret
      exact ⟨ret_str E2.out, Below.refl _ _⟩
  · by_cases c4 : c = 4
    · subst c4
      cases b with
      | true =>
        have E2 : Hid (strOfNums [78, 65, 78] = strOfNums R) := by rw [Hid, E.out]; rfl
        clear E
        go_enter Tryz.func146, Tryz.ntmps146
        go_wp2_with (first | (go_at_call 54; refine (C.out _).mono ?_; rintro e w' ⟨rfl, hw⟩; rw [hw]; clear hw w') | (go_at_call 178; refine (CP.out _).mono ?_; rintro e w' ⟨rfl, hw⟩; rw [hw]; clear hw w'))
        refine (U2.out _).mono ?_
        rintro e w1 ⟨rfl, b1⟩
        have B1 := hid b1
        clear b1
        go_wp2_with fail
        go_ret
        exact ⟨ret_str E2.out, B1.out⟩
      | false =>
        have E2 : Hid (strOfNums [110, 97, 110] = strOfNums R) := by rw [Hid, E.out]; rfl
        clear E
        go_enter Tryz.func146, Tryz.ntmps146
        go_wp2_with (first | (go_at_call 54; refine (C.out _).mono ?_; rintro e w' ⟨rfl, hw⟩; rw [hw]; clear hw w') | (go_at_call 178; refine (CP.out _).mono ?_; rintro e w' ⟨rfl, hw⟩; rw [hw]; clear hw w'))
        go_ret
        exact ⟨ret_str E2.out, Below.refl _ _⟩
    · have k3 : (c == 3) = false := by simpa using c3
      have k4 : (c == 4) = false := by simpa using c4
      have E2 : Hid (strOfNums [] = strOfNums R) := by rw [Hid, E.out, if_neg c3, if_neg c4]
      clear E c3 c4
      cases b with
      | true =>
        go_enter Tryz.func146, Tryz.ntmps146
        go_wp2_with (first | (go_at_call 54; refine (C.out _).mono ?_; rintro e w' ⟨rfl, hw⟩; rw [hw]; clear hw w') | (go_at_call 178; refine (CP.out _).mono ?_; rintro e w' ⟨rfl, hw⟩; rw [hw]; clear hw w'))
        refine (U0.out _).mono ?_
        rintro e w1 ⟨rfl, b1⟩
        have B1 := hid b1
        clear b1
        go_wp2_with fail
        go_ret
        exact ⟨ret_str E2.out, B1.out⟩
      | false =>
        go_enter Tryz.func146, Tryz.ntmps146
        go_wp2_with (first | (go_at_call 54; refine (C.out _).mono ?_; rintro e w' ⟨rfl, hw⟩; rw [hw]; clear hw w') | (go_at_call 178; refine (CP.out _).mono ?_; rintro e w' ⟨rfl, hw⟩; rw [hw]; clear hw w'))
        go_ret
        exact ⟨ret_str E2.out, Below.refl _ _⟩
end Go.Proofs.YtigmhnlcmhpepaaGreatDoor

namespace Go.Proofs.YtigmhnlcmhpepaaGreatDoor
open Go Go.RowKit Go.Deep Go.Shelf

/-- Three texts in a box that may be written. -/
def N3 (w : World) (b : Nat) (v0 v1 v2 : Value) : Prop := w.heap[b]? = some (.cells #[v0, v1, v2] 233 (0, 0))
theorem N3.new (w : World) (v0 v1 v2 : Value) : N3 (w.alloc (.cells #[v0, v1, v2] 233)) w.heap.size v0 v1 v2 := heap_alloc_new w _
theorem N3.lt {w : World} {b : Nat} {v0 v1 v2 : Value} (h : N3 w b v0 v1 v2) : b < w.heap.size := by
  rcases Nat.lt_or_ge b w.heap.size with hl | hl
  · exact hl
  · simp [N3, Array.getElem?_eq_none hl] at h
theorem N3.below {w w' : World} {b : Nat} {v0 v1 v2 : Value} (h : N3 w b v0 v1 v2) (hB : Below w.heap.size w w') : N3 w' b v0 v1 v2 := by
  rw [N3, hB.block b h.lt]; exact h
theorem N3.cells {w : World} {b : Nat} {v0 v1 v2 : Value} (h : N3 w b v0 v1 v2) :
    (w.cell? ⟨b, 0, none⟩ = some v0 ∧ w.cell? ⟨b, 1, none⟩ = some v1 ∧ w.cell? ⟨b, 2, none⟩ = some v2) ∧
    (w.frozen? ⟨b, 0, none⟩ = false ∧ w.frozen? ⟨b, 1, none⟩ = false ∧ w.frozen? ⟨b, 2, none⟩ = false) := by
  simp only [N3] at h
  refine ⟨⟨?_, ?_, ?_⟩, ⟨?_, ?_, ?_⟩⟩ <;> simp [World.cell?, World.frozen?, h]
theorem N3.put {w : World} {b : Nat} {v0 v1 v2 : Value} (h : N3 w b v0 v1 v2) (u0 u1 u2 : Value) :
    N3 (((w.setCell ⟨b, 0, none⟩ u0).setCell ⟨b, 1, none⟩ u1).setCell ⟨b, 2, none⟩ u2) b u0 u1 u2 := by
  have h0 := fset1 (o := 0) (v := u0) (c' := #[u0, v1, v2]) h (by simp [Array.setIfInBounds])
  have h1 := fset1 (o := 1) (v := u1) (c' := #[u0, u1, v2]) h0 (by simp [Array.setIfInBounds])
  exact fset1 (o := 2) (v := u2) (c' := #[u0, u1, u2]) h1 (by simp [Array.setIfInBounds])
theorem N3.put1 {w : World} {b : Nat} {v0 v1 v2 : Value} (h : N3 w b v0 v1 v2) (u1 : Value) :
    N3 (w.setCell ⟨b, 1, none⟩ u1) b v0 u1 v2 := fset1 (o := 1) (v := u1) (c' := #[v0, u1, v2]) h (by simp [Array.setIfInBounds])
/-- A number's box, all else as it was. -/
structure NB (w0 : World) (b : Nat) (x y z : List Int) (wk : World) : Prop where
  bel : Below w0.heap.size w0 wk
  box : N3 wk b (.string (strOfNums x)) (.string (strOfNums y)) (.string (strOfNums z))
  lo : w0.heap.size ≤ b
theorem NB.on {w0 wk w' : World} {b : Nat} {x y z : List Int} (h : NB w0 b x y z wk) (k : Below wk.heap.size wk w') : NB w0 b x y z w' := ⟨below_on h.bel k, h.box.below k, h.lo⟩
theorem NB.drew {w0 wk : World} {b : Nat} {x y z : List Int} (h : NB w0 b x y z wk) : NB w0 b x y z wk.drew := ⟨h.bel.drew, h.box, h.lo⟩
theorem NB.put {w0 wk : World} {b : Nat} {x y z : List Int} (h : NB w0 b x y z wk) (x' y' z' : List Int) :
    NB w0 b x' y' z' (((wk.setCell ⟨b, 0, none⟩ (.string (strOfNums x'))).setCell ⟨b, 1, none⟩ (.string (strOfNums y'))).setCell ⟨b, 2, none⟩ (.string (strOfNums z'))) :=
  ⟨fset3_below h.bel h.lo, h.box.put _ _ _, h.lo⟩
theorem NB.put1 {w0 wk : World} {b : Nat} {x y z : List Int} (h : NB w0 b x y z wk) (y' : List Int) :
    NB w0 b x y' z (wk.setCell ⟨b, 1, none⟩ (.string (strOfNums y'))) :=
  ⟨h.bel.setCell (p := ⟨b, 1, none⟩) h.lo _, h.box.put1 _, h.lo⟩
theorem NB.new (w : World) : NB w w.heap.size [] [] [] (w.alloc (.cells #[.string ⟨#[]⟩, .string ⟨#[]⟩, .string ⟨#[]⟩] 233)) := ⟨alloc_b w _, N3.new w _ _ _, Nat.le_refl _⟩

/-- Places and Figures, their texts as lists. -/
theorem plx_any (d n : Int) (w : World) (hT : Tab w) (h0 : 0 ≤ d) (h1 : d < 18446744073709551616) :
    Calls Tryz.prog 181 #[.int .u64 d, .int .i64 n] w fun e w' => e = .returned (.tuple #[.string (strOfNums (Fx.pA d n)), .string (strOfNums (Fx.pB d n)), .int .i64 (Fx.rf d n 0)]) ∧ Below w.heap.size w w' := by
  refine (places_any d n w hT h0 h1).mono ?_
  rintro e w' ⟨s, t, rfl, hs, ht, hB⟩
  rw [str_is hs, str_is ht]
  exact ⟨rfl, hB⟩
theorem fgx_any (d n : Int) (w : World) (hT : Tab w) (h0 : 0 ≤ d) (h1 : d < 18446744073709551616) :
    Calls Tryz.prog 182 #[.int .u64 d, .int .i64 n] w fun e w' => e = .returned (.tuple #[.string (strOfNums (Fx.gS d n)), .int .i64 (Fx.gK d n), .int .i64 (Fx.rf d n 1)]) ∧ Below w.heap.size w w' := by
  refine (figures_any d n w hT h0 h1).mono ?_
  rintro e w' ⟨s, rfl, hs, hB⟩
  rw [str_is hs]
  exact ⟨rfl, hB⟩

/-- What the texts of a number are told as. -/
def NumV (x y z : List Int) : Value := .agg #[.string (strOfNums x), .string (strOfNums y), .string (strOfNums z)]

set_option maxRecDepth 100000 in
set_option maxHeartbeats 2000000 in
theorem pexp_any (V k : Int) (w : World) (v0 : 0 ≤ V) (v1 : V < 256) (k0 : -400 ≤ k) (k1 : k ≤ 400) :
    Calls Tryz.prog 183 #[.int .u8 V, .int .i64 k] w fun e w' => e = .returned (.string (strOfNums (Po.ex V k))) ∧ Below w.heap.size w w' := by
  have CP := hid (fun wx => pcap_any V wx v0 v1)
  obtain ⟨m, hm⟩ : ∃ m, max k (-k) = m := ⟨_, rfl⟩
  have m0 : 0 ≤ m := by omega
  have m1 : m ≤ 400 := by omega
  have SG : Hid (∀ W' : World, Calls Tryz.prog 118 #[.agg #[.int .u8 100, .int .i64 2, .int .i64 0, .int .i64 2], .bool (decide (k < 0)), .slice (some ⟨W'.heap.size, 0, none⟩) 1 1] (W'.alloc (.cells #[.int .u64 m] 22)) fun e w' => e = .returned (.tuple #[.string (strOfNums (Po.xd k)), .int .i64 0]) ∧ Below W'.heap.size W' w') := by
    intro W'
    have hA : Arg (W'.alloc (.cells #[.int .u64 m] 22)) (some ⟨W'.heap.size, 0, none⟩) 1 1 [m] := by
      have o : Own (W'.alloc (.cells #[.int .u64 m] 22)) W'.heap.size [m] := heap_alloc_new W' _
      exact ⟨rfl, by omega, by omega, o.lies, limb_one ⟨m0, by omega⟩⟩
    refine (wsigned_any 100 2 0 2 (decide (k < 0)) _ 1 1 [m] _ (by omega) (by omega) hA).mono ?_
    rintro e w' ⟨rfl, b⟩
    have hv : Nm.val [m] = m := by simp [Nm.val]
    have ts : Nm.tsize [m] ≤ 1 := by have := Nm.tsize_le [m]; simpa using this
    have hE : Wh.sigE 100 2 0 2 (Nm.tsize [m]) = 0 := by
      rw [Wh.sigE, if_pos (by omega), if_pos (by decide), if_neg (by omega)]
    refine ⟨?_, below_on (alloc_b W' _) b⟩
    rw [hE, Wh.sig, hE, if_pos rfl, hv, Wh.sigT, Wh.padT_zero]
    have e1 : Wh.sgn 2 (decide (k < 0) && decide (m ≠ 0)) ++ Wh.fil 2 (Wh.dig 10 false m) = Po.xd k := by
      unfold Po.xd
      rw [hm]
      by_cases c : k < 0
      · rw [decide_eq_true c, decide_eq_true (show m ≠ 0 by omega), if_pos c]; rfl
      · rw [decide_eq_false c, if_neg c]; rfl
    rw [e1]
  have hs1 : (w.alloc (.cells #[.int .u8 100, .int .i64 2, .int .i64 0, .int .i64 2] 141)).heap.size = w.heap.size + 1 := Array.size_push ..
  have SG1 : Hid (Calls Tryz.prog 118 #[.agg #[.int .u8 100, .int .i64 2, .int .i64 0, .int .i64 2], .bool (decide (k < 0)), .slice (some ⟨w.heap.size + 1, 0, none⟩) 1 1] ((w.alloc (.cells #[.int .u8 100, .int .i64 2, .int .i64 0, .int .i64 2] 141)).alloc (.cells #[.int .u64 m] 22)) fun e w' => e = .returned (.tuple #[.string (strOfNums (Po.xd k)), .int .i64 0]) ∧ Below w.heap.size w w') := by
    have q := SG.out (w.alloc (.cells #[.int .u8 100, .int .i64 2, .int .i64 0, .int .i64 2] 141))
    refine Calls.mono (by rw [hs1] at q; exact q) ?_
    rintro e w' ⟨rfl, b⟩
    rw [← hs1] at b
    exact ⟨rfl, below_on (alloc_b w _) b⟩
  clear hs1 SG
  have XL := Po.xd_len (k := k) (by omega) (by omega)
  have xs : (strOfNums (Po.xd k)).size = (Po.xd k).length := strOfNums_size _
  have xl : ((strOfNums (Po.xd k)).size : Int) ≤ 4 := by rw [xs]; omega
  have E : Hid ((Po.cap V = true → (⟨#[69]⟩ : ByteArray) ++ strOfNums (Po.xd k) = strOfNums (Po.ex V k)) ∧ (Po.cap V = false → (⟨#[101]⟩ : ByteArray) ++ strOfNums (Po.xd k) = strOfNums (Po.ex V k))) := by
    have X := Str.of_nums (Po.xd_by k)
    constructor
    · intro c
      have q : Str ((⟨#[69]⟩ : ByteArray) ++ strOfNums (Po.xd k)) ([69] ++ Po.xd k) := Str.app rfl X
      rw [str_is q, Po.ex, if_pos c]; rfl
    · intro c
      have q : Str ((⟨#[101]⟩ : ByteArray) ++ strOfNums (Po.xd k)) ([101] ++ Po.xd k) := Str.app rfl X
      rw [str_is q, Po.ex, if_neg (by rw [c]; decide)]; rfl
  clear XL xs v0 v1
  generalize Po.cap V = b at *
  generalize Po.xd k = X at *
  generalize Po.ex V k = R at *
  generalize hs : strOfNums X = s at *
  clear hs
  cases b with
  | true =>
    have E2 := hid (E.out.1 rfl)
    clear E
    go_enter Tryz.func183, Tryz.ntmps183
    go_wp2_with (go_at_call 178; refine (CP.out _).mono ?_; rintro e w' ⟨rfl, hw⟩; rw [hw]; clear hw w')
    with_reducible refine SG1.out.mono ?_
    rintro e w1 ⟨rfl, b1⟩
    have B1 := hid b1
    clear b1
    go_wp2_with fail
    go_ret
    exact ⟨ret_str E2.out, B1.out⟩
  | false =>
    have E2 := hid (E.out.2 rfl)
    clear E
    go_enter Tryz.func183, Tryz.ntmps183
    go_wp2_with (go_at_call 178; refine (CP.out _).mono ?_; rintro e w' ⟨rfl, hw⟩; rw [hw]; clear hw w')
    with_reducible refine SG1.out.mono ?_
    rintro e w1 ⟨rfl, b1⟩
    have B1 := hid b1
    clear b1
    go_wp2_with fail
    go_ret
    exact ⟨ret_str E2.out, B1.out⟩

set_option maxRecDepth 100000 in
set_option maxHeartbeats 2000000 in
theorem pplaced_any (d n : Int) (w : World) (hT : Tab w) (h0 : 0 ≤ d) (h1 : d < 18446744073709551616) :
    Calls Tryz.prog 154 #[.int .u64 d, .int .i64 n] w fun e w' => e = .returned (NumV (Fx.pA d n) (Fx.pB d n) []) ∧ Below w.heap.size w w' := by
  have B := hid (NB.new w)
  have PL := hid (plx_any d n _ (hT.below (NB.new w).bel) h0 h1)
  generalize Fx.pA d n = A at *
  generalize Fx.pB d n = C at *
  generalize Fx.rf d n 0 = r at *
  clear hT h0 h1
  go_enter Tryz.func154, Tryz.ntmps154
  go_wp2_with fail
  refine PL.out.mono ?_
  rintro e w1 ⟨rfl, b1⟩
  have B1 := hid (B.out.on b1)
  have B2 := hid (B1.out.put A C [])
  obtain ⟨⟨c0, c1, c2⟩, f0, f1, f2⟩ := B1.out.box.cells
  clear b1 B PL
  go_wp2_with fail
  (try simp only [Exit.inBlock, Exit.then])
  refine bodyPost_ret (results_cell_row rfl _ _ w.heap.size 233 _ (0, 0) _ rfl B2.out.box Tryz.underlying233 rfl (by kernel_rfl)) rfl ?_
  exact ⟨rfl, B2.out.bel⟩
end Go.Proofs.YtigmhnlcmhpepaaGreatDoor

namespace Go.Proofs.YtigmhnlcmhpepaaGreatDoor
open Go Go.RowKit Go.Deep
namespace Po

/-- What is padded. -/
noncomputable def tb (V F P d : Int) : List Int := if Ie.fnt d = true then bd V (Wh.bit F 8) P d else nm (cap V) (Ie.cls d)
theorem ren_pad {V F W P d : Int} (h : renE V F W P = 0) : ren V F W P d = Wh.padT F W (Ie.fnt d) (Wh.sgn F (ng d)) (tb V F P d) := by
  unfold ren tb
  rw [if_pos h]
  by_cases c : Ie.fnt d = true
  · rw [if_pos c, if_pos c, c]
  · rw [if_neg c, if_neg c, show Ie.fnt d = false by simpa using c]
theorem renE_ok {V F W P : Int} (h : renE V F W P = 0) : okV V = true ∧ Wh.chk F W P = 0 := by
  unfold renE at h
  split at h
  · next c => exact ⟨c, h⟩
  · omega
theorem tb_ok {V F P d : Int} (p0 : -1 ≤ P) (p1 : P ≤ 4096) : Wh.By (tb V F P d) ∧ (tb V F P d).length ≤ 20000 := by
  unfold tb
  split
  · next c => exact bd_ok _ c p0 p1
  · exact ⟨nm_by _ _, by have := nm_len (cap V) (Ie.cls d); omega⟩
theorem ren_len {V F W P d : Int} : (ren V F W P d).length ≤ 30000 ∧ Wh.By (ren V F W P d) := by
  by_cases h : renE V F W P = 0
  · obtain ⟨-, b⟩ := renE_ok h
    obtain ⟨f, w, p⟩ := Wh.chk_ok b
    have k := tb_ok (V := V) (F := F) (d := d) p.1 p.2
    have s := Wh.sgn_len F (ng d)
    rw [ren_pad h]
    refine ⟨?_, Wh.padT_by (Wh.sgn_by _ _) k.1⟩
    rw [Wh.padT_len]
    omega
  · unfold ren
    rw [if_neg h]
    exact ⟨by simp, Wh.By.nil⟩

/-- Small letters. -/
def low (x : Int) : Int := if 65 ≤ x ∧ x ≤ 90 then x + 32 else x
theorem low_id {x : Int} (h : ¬ (65 ≤ x ∧ x ≤ 90)) : low x = x := if_neg h
theorem map_id {xs : List Int} (h : ∀ x ∈ xs, ¬ (65 ≤ x ∧ x ≤ 90)) : xs.map low = xs := by
  induction xs with
  | nil => rfl
  | cons x l ih => rw [List.map_cons, low_id (h x (by simp)), ih (fun y hy => h y (by simp [hy]))]
/-- No small letter. -/
def NoS (xs : List Int) : Prop := ∀ x ∈ xs, ¬ (97 ≤ x ∧ x ≤ 122)
theorem NoS.app {a b : List Int} (h : NoS a) (k : NoS b) : NoS (a ++ b) := by
  intro x hx
  rcases List.mem_append.1 hx with q | q
  · exact h x q
  · exact k x q
theorem NoS.digs {a : List Int} (h : Digs a) : NoS a := fun x hx => by have := h x hx; omega
theorem NoS.cons {c : Int} {a : List Int} (h0 : ¬ (97 ≤ c ∧ c ≤ 122)) (h : NoS a) : NoS (c :: a) := by
  intro x hx
  rcases List.mem_cons.1 hx with q | q
  · rw [q]; exact h0
  · exact h x q
theorem NoS.nil : NoS [] := by intro x h; simp at h
end Po
end Go.Proofs.YtigmhnlcmhpepaaGreatDoor
