/-
  Texts put together: FRep, FKept, FApi, NSub, NRead.
-/
import Derived.Test.YtbdbpjghmejfjaaGreatDoorNStr
import Derived.Shelf.Strings.Repeat
import Derived.Test.YtbdbpjghmejfjaaGreatDoorRG
import Derived.Laws.Concat
import Derived.BigQuiet
import Derived.Test.YtbdbpjghmejfjaaGreatDoorRB
import Derived.Test.YtbdbpjghmejfjaaGreatDoorWalk2a
import Derived.Test.YtbdbpjghmejfjaaGreatDoorNFrom
import Derived.Test.YtbdbpjghmejfjaaGreatDoorNDv
namespace Go.Proofs.YtbdbpjghmejfjaaGreatDoor
open Go Go.RowKit Go.Deep Go.Shelf

def repLays_ren : Go.Shelf.Ren := ⟨fun | 105 => 28 | 212 => 51 | 99 => 52 | 165 => 53 | 166 => 54 | 170 => 55 | 169 => 56 | 263 => 80 | 264 => 81 | 206 => 82 | 240 => 83 | 241 => 84 | 276 => 102 | 277 => 103 | n => n, fun | 9 => 9 | 3 => 3 | 4 => 4 | 20 => 20 | 0 => 0 | 46 => 62 | 109 => 78 | 5 => 5 | 72 => 83 | 76 => 87 | 51 => 110 | 146 => 111 | 53 => 24 | 148 => 94 | 70 => 81 | 37 => 70 | 75 => 86 | 127 => 114 | 164 => 127 | 80 => 90 | n => n, fun | n => n⟩
theorem repLays : Go.Proofs.Lays.n105 Tryz.prog repLays_ren := {
  mixed := by kernel_rfl
  f99 := Tryz.func52.trans (congrArg some (by kernel_rfl))
  f105 := Tryz.func28.trans (congrArg some (by kernel_rfl))
  f165 := Tryz.func53.trans (congrArg some (by kernel_rfl))
  f166 := Tryz.func54.trans (congrArg some (by kernel_rfl))
  f169 := Tryz.func56.trans (congrArg some (by kernel_rfl))
  f170 := Tryz.func55.trans (congrArg some (by kernel_rfl))
  f206 := Tryz.func82.trans (congrArg some (by kernel_rfl))
  f212 := Tryz.func51.trans (congrArg some (by kernel_rfl))
  f240 := Tryz.func83.trans (congrArg some (by kernel_rfl))
  f241 := Tryz.func84.trans (congrArg some (by kernel_rfl))
  f263 := Tryz.func80.trans (congrArg some (by kernel_rfl))
  f264 := Tryz.func81.trans (congrArg some (by kernel_rfl))
  f276 := Tryz.func102.trans (congrArg some (by kernel_rfl))
  f277 := Tryz.func103.trans (congrArg some (by kernel_rfl))
  t0 := Tryz.underlying0
  a0 := Tryz.isAgg0
  z0 := Tryz.sizeOf0
  v0 := Tryz.zeroValue0
  t3 := Tryz.underlying3
  a3 := Tryz.isAgg3
  z3 := Tryz.sizeOf3
  v3 := Tryz.zeroValue3
  t4 := Tryz.underlying4
  a4 := Tryz.isAgg4
  z4 := Tryz.sizeOf4
  v4 := Tryz.zeroValue4
  t5 := Tryz.underlying5
  a5 := Tryz.isAgg5
  z5 := Tryz.sizeOf5
  v5 := Tryz.zeroValue5
  t9 := Tryz.underlying9
  a9 := Tryz.isAgg9
  z9 := Tryz.sizeOf9
  v9 := Tryz.zeroValue9
  t20 := Tryz.underlying20
  a20 := Tryz.isAgg20
  z20 := Tryz.sizeOf20
  v20 := Tryz.zeroValue20
  t37 := Tryz.underlying70
  a37 := Tryz.isAgg70
  z37 := Tryz.sizeOf70
  v37 := Tryz.zeroValue70
  t46 := Tryz.underlying62
  a46 := Tryz.isAgg62
  z46 := Tryz.sizeOf62
  v46 := Tryz.zeroValue62
  t51 := Tryz.underlying110
  a51 := Tryz.isAgg110
  z51 := Tryz.sizeOf110
  v51 := Tryz.zeroValue110
  t53 := Tryz.underlying24
  a53 := Tryz.isAgg24
  z53 := Tryz.sizeOf24
  v53 := Tryz.zeroValue24
  t70 := Tryz.underlying81
  a70 := Tryz.isAgg81
  z70 := Tryz.sizeOf81
  v70 := Tryz.zeroValue81
  t72 := Tryz.underlying83
  a72 := Tryz.isAgg83
  z72 := Tryz.sizeOf83
  v72 := Tryz.zeroValue83
  t75 := Tryz.underlying86
  a75 := Tryz.isAgg86
  z75 := Tryz.sizeOf86
  v75 := Tryz.zeroValue86
  t76 := Tryz.underlying87
  a76 := Tryz.isAgg87
  z76 := Tryz.sizeOf87
  v76 := Tryz.zeroValue87
  t109 := Tryz.underlying78
  a109 := Tryz.isAgg78
  z109 := Tryz.sizeOf78
  v109 := Tryz.zeroValue78
  t127 := Tryz.underlying114
  a127 := Tryz.isAgg114
  z127 := Tryz.sizeOf114
  v127 := Tryz.zeroValue114
  t146 := Tryz.underlying111
  a146 := Tryz.isAgg111
  z146 := Tryz.sizeOf111
  v146 := Tryz.zeroValue111
  t148 := Tryz.underlying94
  a148 := Tryz.isAgg94
  z148 := Tryz.sizeOf94
  v148 := Tryz.zeroValue94
  t164 := Tryz.underlying127
  a164 := Tryz.isAgg127
  z164 := Tryz.sizeOf127
  v164 := Tryz.zeroValue127 }
theorem repExtra : Go.Proofs.Builder.Extra Tryz.prog repLays_ren where
  sizeBuilder := by kernel_rfl
  liesBuilder := by kernel_rfl
  t5 := Tryz.underlying5
  a5 := Tryz.isAgg5
  z5 := Tryz.sizeOf5
  v5 := Tryz.zeroValue5
  infoByte := by kernel_rfl
  cellsByte := by kernel_rfl
  sizeByte := by kernel_rfl
  neB5 := by decide

theorem repeat_str (c : Nat) : Str ⟨(Lib.repeatL (#[48] : Array UInt8).toList c).toArray⟩ (List.replicate c 48) := by
  unfold Str
  simp only
  induction c with
  | zero => rfl
  | succ c ih =>
    rw [Lib.repeatL, List.replicate_succ]
    simpa using ih

theorem frepeat_any (c : Nat) (w : World) (hc : c ≤ 100000) :
    Calls Tryz.prog 28 #[.string ⟨#[48]⟩, .int .i64 (c : Int)] w fun e w' => ∃ s, e = .returned (.string s) ∧ Str s (List.replicate c 48) ∧ Below w.heap.size w w' := by
  refine (Any.strings_Repeat repLays repExtra ⟨#[48]⟩ c w (by omega) (by have : (⟨#[48]⟩ : ByteArray).size = 1 := rfl; rw [this]; omega)).mono ?_
  rintro e w' ⟨rfl, hB⟩
  exact ⟨_, rfl, repeat_str c, hB⟩
end Go.Proofs.YtbdbpjghmejfjaaGreatDoor

namespace Go.Proofs.YtbdbpjghmejfjaaGreatDoor
open Go Go.RowKit Go.Deep

theorem Str.app {a b : ByteArray} {xs ys : List Int} (h : Str a xs) (k : Str b ys) : Str (a ++ b) (xs ++ ys) := by
  unfold Str at *
  rw [← h, ← k, ← List.map_append]
  simp

theorem str_one : Str ⟨#[49]⟩ [49] := rfl

set_option maxRecDepth 100000 in
set_option maxHeartbeats 2000000 in
theorem kept_any (s : ByteArray) (xs : List Int) (c : Int) (w : World) (hs : Str s xs) (hd : Digs xs) (h0 : xs ≠ []) (hl : xs.length ≤ 3000) (hc : c ≤ 10000) :
    Calls Tryz.prog 27 #[.string s, .int .i64 c] w fun e w' => ∃ s', e = .returned (.string s') ∧ Str s' (Fx.kp xs c) ∧ Below w.heap.size w w' := by
  by_cases hn : c < 0
  · have F : Hid (Str ⟨#[]⟩ (Fx.kp xs c)) := by rw [Fx.kp_neg hn]; rfl
    clear hs hd h0 hl
    go_enter Tryz.func27, Tryz.ntmps27
    go_wp2_with fail
    go_ret
    exact ⟨_, rfl, F.out, Below.refl _ _⟩
  · obtain ⟨k, rfl⟩ := Int.eq_ofNat_of_zero_le (show 0 ≤ c by omega)
    have R := hid (round_any s xs k false w hs h0 hd (by omega) (by omega) (by omega))
    by_cases hg : xs.length ≤ k
    · obtain ⟨z, hz⟩ : ∃ z : Nat, (k : Int) - (s.size : Int) = (z : Int) := ⟨k - s.size, by rw [hs.size]; omega⟩
      have RE := hid (fun wx : World => frepeat_any z wx (by omega))
      have szb : (s.size : Int) ≤ 3000 := by rw [hs.size]; omega
      have kb : (k : Int) ≤ 10000 := hc
      have F : Hid (∀ b : ByteArray, Str b (List.replicate z 48) → Str (s ++ b) (Fx.kp xs k)) := by
        intro b hb
        rw [Fx.kp_full hg, show k - xs.length = z by have := hs.size; omega]
        exact hs.app hb
      have RT : Hid (∀ e, RoundTold s xs k false e → e = .returned (.tuple #[.string s, .bool false, .int .i64 0])) := fun e h => h.1 (by omega)
      clear hs hd h0 hl hg hn hc
      go_enter Tryz.func27, Tryz.ntmps27
      go_wp2_with fail
      refine R.out.mono ?_
      rintro e w1 ⟨h, B1⟩
      obtain rfl := RT.out e h
      have HB := hid B1
      clear h B1 RT R
      go_wp2_with fail
      refine (RE.out _).mono ?_
      rintro e w2 ⟨b, rfl, hb, B2⟩
      have K := hid (And.intro (F.out b hb) (HB.out.trans (B2.mono HB.out.size)))
      have szc : (b.size : Int) ≤ 10000 := by rw [hb.size, List.length_replicate]; omega
      clear hb B2 RE F HB
      go_wp2_with fail
      go_ret
      exact ⟨_, rfl, K.out.1, K.out.2⟩
    · have hk : k < xs.length := by omega
      have RE := hid (fun wx : World => frepeat_any 0 wx (by omega))
      have kb : (k : Int) ≤ 10000 := hc
      have RT : Hid (∀ e, RoundTold s xs k false e → ∃ s' c, e = .returned (.tuple #[.string s', .bool c, .int .i64 0]) ∧ s'.size = k ∧ Hid (∀ b, Str b [] → if c = true then Str (⟨#[49]⟩ ++ (s' ++ b)) (Fx.kp xs k) else Str (s' ++ b) (Fx.kp xs k))) := by
        intro e h
        obtain ⟨s', ds, c, rfl, h1, h2⟩ := h.2 (by omega)
        rw [Int.toNat_natCast] at h2
        refine ⟨s', c, rfl, by rw [h1.size, h2.2.1], fun b hb => ?_⟩
        have q := Fx.rd_round hd (by omega) h2
        rw [Fx.kp_cut hk, ← q]
        have a := h1.app hb
        rw [List.append_nil] at a
        cases c
        · exact a
        · exact str_one.app a
      clear hs hd h0 hl hg hn hc hk
      go_enter Tryz.func27, Tryz.ntmps27
      go_wp2_with fail
      refine R.out.mono ?_
      rintro e w1 ⟨h, B1⟩
      obtain ⟨s', c, rfl, hz, F⟩ := RT.out e h
      have HB := hid B1
      clear h B1 RT R
      go_wp2_with fail
      refine (RE.out _).mono ?_
      rintro e w2 ⟨b, rfl, hb, B2⟩
      have K := hid (F.out b hb)
      have HB2 := hid (HB.out.trans (B2.mono HB.out.size))
      have szc : b.size = 0 := by rw [hb.size]; rfl
      clear hb B2 RE F HB
      cases c
      · go_wp2_with fail
        go_ret
        exact ⟨_, rfl, K.out, HB2.out⟩
      · go_wp2_with fail
        go_ret
        exact ⟨_, rfl, K.out, HB2.out⟩
end Go.Proofs.YtbdbpjghmejfjaaGreatDoor

namespace Go.Proofs.YtbdbpjghmejfjaaGreatDoor
open Go Go.RowKit Go.Deep

namespace Fx
/-- The error. -/
def rf (d n l : Int) : Int := if Ie.fnt d = true then (if n < l ∨ 4200 < n then 1 else 0) else 5
theorem rf_zero {d n l : Int} : rf d n l = 0 ↔ Ie.fnt d = true ∧ l ≤ n ∧ n ≤ 4200 := by
  unfold rf
  by_cases h : Ie.fnt d = true
  · rw [if_pos h]
    by_cases g : n < l ∨ 4200 < n
    · rw [if_pos g]; omega
    · rw [if_neg g]; simp [h]; omega
  · rw [if_neg h]; simp [h]
/-- The whole number of Places, written. -/
noncomputable def W (d : Int) (n : Nat) : List Int := List.replicate (n + 1 - (kp (X d) ((X d).length + P d + n)).length) 48 ++ kp (X d) ((X d).length + P d + n)
noncomputable def pA (d n : Int) : List Int := if rf d n 0 = 0 then (W d n.toNat).take ((W d n.toNat).length - n.toNat) else []
noncomputable def pB (d n : Int) : List Int := if rf d n 0 = 0 then (W d n.toNat).drop ((W d n.toNat).length - n.toNat) else []
/-- What Figures answers. -/
noncomputable def gS (d n : Int) : List Int := if rf d n 1 = 0 then (kp (X d) n).take n.toNat else []
noncomputable def gK (d n : Int) : Int := if rf d n 1 = 0 then (X d).length - 1 + P d + (if n < (kp (X d) n).length then 1 else 0) else 0

theorem W_len (d : Int) (n : Nat) : n + 1 ≤ (W d n).length := by
  unfold W
  rw [List.length_append, List.length_replicate]
  omega
theorem kp_len_le {xs : List Int} {c : Int} {m : Nat} (hc : c ≤ m) (hx : xs.length ≤ m) : (kp xs c).length ≤ m + 1 := by
  unfold kp
  split
  · simp
  · split
    · rw [List.length_append, List.length_replicate]; omega
    · rw [rd_len]; split <;> omega
end Fx

set_option maxRecDepth 100000 in
theorem refused_any (d n l : Int) (w : World) (h0 : 0 ≤ d) (h1 : d < 18446744073709551616) :
    Calls Tryz.prog 25 #[.int .u64 d, .int .i64 n, .int .i64 l] w fun e w' => e = .returned (.int .i64 (Fx.rf d n l)) ∧ w' = w := by
  have FN := hid (fun wx : World => ffinite_any d wx h0 h1)
  have E : Hid (Fx.rf d n l = if Ie.fnt d = true then (if n < l ∨ 4200 < n then 1 else 0) else 5) := rfl
  generalize Ie.fnt d = f at *
  clear h0 h1
  cases f
  · have E2 : Hid (Fx.rf d n l = 5) := E.out
    clear E
    go_enter Tryz.func25, Tryz.ntmps25
    go_wp2_with fail
    refine (FN.out _).mono ?_
    rintro e w' ⟨rfl, rfl⟩
    go_wp2_with fail
    go_ret
    exact ⟨i_retI E2.out.symm, rfl⟩
  · have E2 : Hid (Fx.rf d n l = if n < l ∨ 4200 < n then 1 else 0) := E.out
    clear E
    rcases (show n < l ∨ (l ≤ n ∧ 4200 < n) ∨ (l ≤ n ∧ n ≤ 4200) by omega) with h | ⟨h, h'⟩ | ⟨h, h'⟩
    · have E3 : Hid (Fx.rf d n l = 1) := by rw [Hid, E2.out, if_pos (.inl h)]
      clear E2
      go_enter Tryz.func25, Tryz.ntmps25
      go_wp2_with fail
      refine (FN.out _).mono ?_
      rintro e w' ⟨rfl, rfl⟩
      go_wp2_with fail
      go_ret
      exact ⟨i_retI E3.out.symm, rfl⟩
    · have E3 : Hid (Fx.rf d n l = 1) := by rw [Hid, E2.out, if_pos (.inr h')]
      clear E2
      go_enter Tryz.func25, Tryz.ntmps25
      go_wp2_with fail
      refine (FN.out _).mono ?_
      rintro e w' ⟨rfl, rfl⟩
      go_wp2_with fail
      go_ret
      exact ⟨i_retI E3.out.symm, rfl⟩
    · have E3 : Hid (Fx.rf d n l = 0) := by rw [Hid, E2.out, if_neg (by omega)]
      clear E2
      go_enter Tryz.func25, Tryz.ntmps25
      go_wp2_with fail
      refine (FN.out _).mono ?_
      rintro e w' ⟨rfl, rfl⟩
      go_wp2_with fail
      go_ret
      exact ⟨i_retI E3.out.symm, rfl⟩

def PlacesTold (d n : Int) (w : World) (e : Ending) (w' : World) : Prop :=
  ∃ s t, e = .returned (.tuple #[.string s, .string t, .int .i64 (Fx.rf d n 0)]) ∧ Str s (Fx.pA d n) ∧ Str t (Fx.pB d n) ∧ Below w.heap.size w w'
def FiguresTold (d n : Int) (w : World) (e : Ending) (w' : World) : Prop :=
  ∃ s, e = .returned (.tuple #[.string s, .int .i64 (Fx.gK d n), .int .i64 (Fx.rf d n 1)]) ∧ Str s (Fx.gS d n) ∧ Below w.heap.size w w'

set_option maxRecDepth 100000 in
set_option maxHeartbeats 4000000 in
theorem places_any (d n : Int) (w : World) (hT : Tab w) (h0 : 0 ≤ d) (h1 : d < 18446744073709551616) :
    Calls Tryz.prog 9 #[.int .u64 d, .int .i64 n] w fun e w' => PlacesTold d n w e w' := by
  have RF := hid (refused_any d n 0 w h0 h1)
  by_cases hr : Fx.rf d n 0 = 0
  · obtain ⟨hf, hn0, hn1⟩ := Fx.rf_zero.1 hr
    obtain ⟨k, rfl⟩ := Int.eq_ofNat_of_zero_le hn0
    have EX := exact_any d w hT h0 h1 (of_decide_eq_true hf)
    unfold ExTold at EX
    rw [← Fx.X, ← Fx.P] at EX
    have HE := hid EX
    obtain ⟨r1, r2, r3, r4, r5⟩ := Fx.X_room hf
    have KE : Hid (∀ (wx : World) (s : ByteArray), Str s (Fx.X d) → Calls Tryz.prog 27 #[.string s, .int .i64 ((Fx.X d).length + Fx.P d + k)] wx fun e w' => ∃ s', e = .returned (.string s') ∧ Str s' (Fx.kp (Fx.X d) ((Fx.X d).length + Fx.P d + k)) ∧ Below wx.heap.size wx w') :=
      fun wx s hs => kept_any s _ _ wx hs (Fx.X_digs hf).1 (Fx.X_digs hf).2 (by omega) (by omega)
    have LB : (Fx.kp (Fx.X d) ((Fx.X d).length + Fx.P d + k)).length ≤ 6000 := by
      have := Fx.kp_len_le (xs := Fx.X d) (c := (Fx.X d).length + Fx.P d + k) (m := 5999) (by omega) (by omega)
      omega
    have G : Hid (∀ (w' : World) (a b : ByteArray), Str a (List.replicate (k + 1 - (Fx.kp (Fx.X d) ((Fx.X d).length + Fx.P d + k)).length) 48) → Str b (Fx.kp (Fx.X d) ((Fx.X d).length + Fx.P d + k)) → Below w.heap.size w w' → k ≤ (a ++ b).size ∧ (a ++ b).size ≤ 12000 ∧ PlacesTold d k w (.returned (.tuple #[.string ((a ++ b).extract 0 ((a ++ b).size - k)), .string ((a ++ b).extract ((a ++ b).size - k) (a ++ b).size), .int .i64 0])) w') := by
      intro w' a b ha hb hB
      have hab : Str (a ++ b) (Fx.W d k) := ha.app hb
      have hz := hab.size
      have hwl := Fx.W_len d k
      have e1 := hab.extract 0 ((a ++ b).size - k)
      have e2 := hab.extract ((a ++ b).size - k) (a ++ b).size
      rw [List.drop_zero, Nat.sub_zero] at e1
      rw [List.take_of_length_le (by rw [List.length_drop, hz]; omega)] at e2
      rw [hz] at e1 e2
      refine ⟨by omega, ?_, ⟨_, _, by rw [hr], ?_, ?_, hB⟩⟩
      · rw [hz]
        unfold Fx.W
        rw [List.length_append, List.length_replicate]
        omega
      · rw [Fx.pA, if_pos hr, Int.toNat_natCast, hz]; exact e1
      · rw [Fx.pB, if_pos hr, Int.toNat_natCast, hz]; exact e2
    rw [hr] at RF
    obtain ⟨L, hL⟩ : ∃ L, (Fx.X d).length = L := ⟨_, rfl⟩
    have LS : Hid (∀ s, Str s (Fx.X d) → s.size = L) := fun s hs => by rw [hs.size, hL]
    rw [hL] at KE LB G r1 r2 r4 r5
    generalize Fx.X d = X at *
    generalize Fx.P d = Q at *
    obtain ⟨c, hc⟩ : ∃ c, (L : Int) + Q + k = c := ⟨_, rfl⟩
    rw [hc] at KE LB G
    generalize hkp : Fx.kp X c = V at *
    clear hkp hf hr EX hT h0 h1 hL
    obtain ⟨v, hv⟩ : ∃ v, V.length = v := ⟨_, rfl⟩
    have VS : Hid (∀ s, Str s V → s.size = v) := fun s hs => by rw [hs.size, hv]
    rw [hv] at LB G
    clear hv
    obtain ⟨z, hz⟩ : ∃ z, k + 1 - v = z := ⟨_, rfl⟩
    rw [hz] at G
    have MX : max ((k : Int) + 1 - (v : Int)) 0 = (z : Int) := by omega
    have RE := hid (fun wx : World => frepeat_any z wx (by omega))
    have kb : (k : Int) ≤ 4200 := hn1
    have vb : (v : Int) ≤ 6000 := by omega
    clear hn0 hn1 LB
    go_enter Tryz.func9, Tryz.ntmps9
    go_wp2_with fail
    refine RF.out.mono ?_
    rintro e wz ⟨rfl, hz⟩
    replace hz := hz.symm
    subst hz
    go_wp2_with fail
    refine HE.out.mono ?_
    rintro e w1 ⟨s, rfl, hs, B1⟩
    have hsz := LS.out s hs
    have K1 := hid (KE.out w1 s hs)
    have HB := hid B1
    clear B1 hs KE HE LS RF
    go_wp2_with fail
    refine K1.out.mono ?_
    rintro e w2 ⟨t, rfl, ht, B2⟩
    have htz := VS.out t ht
    have HT2 := hid ht
    have HB2 := hid (HB.out.trans (B2.mono HB.out.size))
    clear B2 ht K1 HB VS
    go_wp2_with fail
    refine (RE.out _).mono ?_
    rintro e w3 ⟨a, rfl, ha, B3⟩
    have haz : a.size = z := by rw [ha.size, List.length_replicate]
    obtain ⟨g1, g2, -⟩ := G.out _ a t ha HT2.out (HB2.out.trans (B3.mono HB2.out.size))
    have HG := hid (fun q : Nat => (G.out _ a t ha HT2.out (below_drewN (HB2.out.trans (B3.mono HB2.out.size)) q)).2.2)
    clear ha B3 G HB2 RE
    go_upto_region 7 with fail
    generalize a ++ t = ab at *
    obtain ⟨N, hN⟩ : ∃ N, ab.size = N := ⟨_, rfl⟩
    rw [hN] at HG g1 g2
    obtain ⟨j, hj⟩ : ∃ j, N - k = j := ⟨_, rfl⟩
    rw [hj] at HG
    have nj : (N : Int) - (k : Int) = (j : Int) := by omega
    have jN : (j : Int) ≤ (N : Int) := by omega
    have nb : (N : Int) ≤ 12000 := by omega
    clear hj hz MX hc
    go_quiet (fail)
    go_wp2_with fail
    go_ret3
    exact HG.out _
  · have F : Hid (PlacesTold d n w (.returned (.tuple #[.string ⟨#[]⟩, .string ⟨#[]⟩, .int .i64 (Fx.rf d n 0)])) w) := ⟨_, _, rfl, by rw [Fx.pA, if_neg hr]; rfl, by rw [Fx.pB, if_neg hr]; rfl, Below.refl _ _⟩
    have hr' : (Fx.rf d n 0 == 0) = false := by rw [beq_eq_false_iff_ne]; exact hr
    have hr2 : (Fx.rf d n 0 != 0) = true := by simp [bne, hr']
    generalize Fx.rf d n 0 = r at *
    clear hr h0 h1 hT
    go_enter Tryz.func9, Tryz.ntmps9
    go_wp2_with fail
    refine RF.out.mono ?_
    rintro e wz ⟨rfl, hz⟩
    replace hz := hz.symm
    subst hz
    go_wp2_with fail
    go_ret3
    exact F.out

set_option maxRecDepth 100000 in
set_option maxHeartbeats 4000000 in
theorem figures_any (d n : Int) (w : World) (hT : Tab w) (h0 : 0 ≤ d) (h1 : d < 18446744073709551616) :
    Calls Tryz.prog 19 #[.int .u64 d, .int .i64 n] w fun e w' => FiguresTold d n w e w' := by
  have RF := hid (refused_any d n 1 w h0 h1)
  by_cases hr : Fx.rf d n 1 = 0
  · obtain ⟨hf, hn0, hn1⟩ := Fx.rf_zero.1 hr
    obtain ⟨k, rfl⟩ := Int.eq_ofNat_of_zero_le (show 0 ≤ n by omega)
    have EX := exact_any d w hT h0 h1 (of_decide_eq_true hf)
    unfold ExTold at EX
    rw [← Fx.X, ← Fx.P] at EX
    have HE := hid EX
    obtain ⟨r1, r2, r3, r4, r5⟩ := Fx.X_room hf
    have KE : Hid (∀ (wx : World) (s : ByteArray), Str s (Fx.X d) → Calls Tryz.prog 27 #[.string s, .int .i64 (k : Int)] wx fun e w' => ∃ s', e = .returned (.string s') ∧ Str s' (Fx.kp (Fx.X d) k) ∧ Below wx.heap.size wx w') :=
      fun wx s hs => kept_any s _ _ wx hs (Fx.X_digs hf).1 (Fx.X_digs hf).2 (by omega) (by omega)
    have LB : (Fx.kp (Fx.X d) k).length ≤ 6000 := by
      have := Fx.kp_len_le (xs := Fx.X d) (c := k) (m := 5999) (by omega) (by omega)
      omega
    have GA : Hid (∀ (w' : World) (b : ByteArray), Str b (Fx.kp (Fx.X d) k) → Below w.heap.size w w' → k < (Fx.kp (Fx.X d) k).length → FiguresTold d k w (.returned (.tuple #[.string (b.extract 0 k), .int .i64 ((Fx.X d).length - 1 + Fx.P d + 1), .int .i64 0])) w') := by
      intro w' b hb hB hl
      have e1 := hb.extract 0 k
      rw [List.drop_zero, Nat.sub_zero] at e1
      refine ⟨_, by rw [Fx.gK, if_pos hr, if_pos (by omega), hr], ?_, hB⟩
      rw [Fx.gS, if_pos hr, Int.toNat_natCast]
      exact e1
    have GB : Hid (∀ (w' : World) (b : ByteArray), Str b (Fx.kp (Fx.X d) k) → Below w.heap.size w w' → ¬ k < (Fx.kp (Fx.X d) k).length → FiguresTold d k w (.returned (.tuple #[.string b, .int .i64 ((Fx.X d).length - 1 + Fx.P d), .int .i64 0])) w') := by
      intro w' b hb hB hl
      refine ⟨_, by rw [Fx.gK, if_pos hr, if_neg (by omega), Int.add_zero, hr], ?_, hB⟩
      rw [Fx.gS, if_pos hr, Int.toNat_natCast, List.take_of_length_le (by omega)]
      exact hb
    rw [hr] at RF
    obtain ⟨L, hL⟩ : ∃ L, (Fx.X d).length = L := ⟨_, rfl⟩
    have LS : Hid (∀ s, Str s (Fx.X d) → s.size = L) := fun s hs => by rw [hs.size, hL]
    rw [hL] at GA GB r1 r2 r4 r5
    generalize Fx.X d = X at *
    generalize Fx.P d = Q at *
    generalize hkp : Fx.kp X k = V at *
    clear hkp hf hr EX hT h0 h1 hL
    obtain ⟨v, hv⟩ : ∃ v, V.length = v := ⟨_, rfl⟩
    have VS : Hid (∀ s, Str s V → s.size = v) := fun s hs => by rw [hs.size, hv]
    rw [hv] at LB GA GB
    clear hv
    have kb : (k : Int) ≤ 4200 := hn1
    have vb : (v : Int) ≤ 6000 := by omega
    have l1 : (1 : Int) ≤ (L : Int) := by omega
    have l2 : (L : Int) ≤ 1383 := by omega
    clear hn0 hn1 LB
    go_enter Tryz.func19, Tryz.ntmps19
    go_wp2_with fail
    refine RF.out.mono ?_
    rintro e wz ⟨rfl, hz⟩
    replace hz := hz.symm
    subst hz
    go_wp2_with fail
    refine HE.out.mono ?_
    rintro e w1 ⟨s, rfl, hs, B1⟩
    have hsz := LS.out s hs
    have K1 := hid (KE.out w1 s hs)
    have HB := hid B1
    clear B1 hs KE HE LS RF
    go_wp2_with fail
    refine K1.out.mono ?_
    rintro e w2 ⟨t, rfl, ht, B2⟩
    have htz := VS.out t ht
    have HB2 := hid (HB.out.trans (B2.mono HB.out.size))
    by_cases hvk : k < v
    · have K := hid (GA.out w2 t ht HB2.out hvk)
      have hvi : (k : Int) < (v : Int) := by omega
      clear B2 ht K1 HB VS GA GB
      go_wp2_with fail
      go_ret3
      exact K.out
    · have K := hid (GB.out w2 t ht HB2.out hvk)
      have hvi : ¬ (k : Int) < (v : Int) := by omega
      clear B2 ht K1 HB VS GA GB
      go_wp2_with fail
      go_ret3
      exact K.out
  · have F : Hid (FiguresTold d n w (.returned (.tuple #[.string ⟨#[]⟩, .int .i64 0, .int .i64 (Fx.rf d n 1)])) w) := ⟨_, by rw [Fx.gK, if_neg hr], by rw [Fx.gS, if_neg hr]; rfl, Below.refl _ _⟩
    have hr' : (Fx.rf d n 1 == 0) = false := by rw [beq_eq_false_iff_ne]; exact hr
    have hr2 : (Fx.rf d n 1 != 0) = true := by simp [bne, hr']
    generalize Fx.rf d n 1 = r at *
    clear hr h0 h1 hT
    go_enter Tryz.func19, Tryz.ntmps19
    go_wp2_with fail
    refine RF.out.mono ?_
    rintro e wz ⟨rfl, hz⟩
    replace hz := hz.symm
    subst hz
    go_wp2_with fail
    go_ret3
    exact F.out
end Go.Proofs.YtbdbpjghmejfjaaGreatDoor

namespace Go.Proofs.YtbdbpjghmejfjaaGreatDoor
open Go.RowKit Go.Deep

set_option maxHeartbeats 1000000 in
theorem subFrom_any (g k : Nat) (zs : List Int) (q : Option Addr) (m cap : Nat) (ys : List Int) (w : World) (hk : zs.length = k) (hkm : k ≤ 35184372088832) (ho : Own w g zs) (hl : Nm.Limbs zs)
    (hm : ys.length = m) (hmk : m ≤ k) (hy : Lies w q ys) (hly : Nm.Limbs ys) (hq : 0 < ys.length → ∀ a, q = some a → a.block < g) (hT : 0 ≤ Nm.val zs - Nm.val ys) :
    Calls Tryz.prog 39 #[.slice (some ⟨g, 0, none⟩) k k, .slice q m cap] w fun e w' => e = .returned (.tuple #[]) ∧ Wrote g k (Nm.val zs - Nm.val ys) w w' := by
  rcases hy with rfl | ⟨b, off, rfl, hcell⟩
  · have hm0 : m = 0 := by simpa using hm.symm
    subst hm0
    have E : Wrote g k (Nm.val zs - Nm.val []) w w := ⟨zs, ho, hk, hl, by simp [Nm.val], Below.refl _ _, rfl⟩
    clear ho hl hT hq hm hk
    go_enter Tryz.func39, Tryz.ntmps39
    go_wp2
    refine wp_loop_rounds 1 ?_
    rw [rounds_succ]
    go_wp2
    refine wp_loop_rounds 1 ?_
    rw [rounds_succ]
    go_wp2
    go_end0
    exact ⟨rfl, E⟩
  · have hbg : 0 < ys.length → b < g := fun h => hq h _ rfl
    have I0 : AddInv g k w (Nm.val zs - Nm.val (ys.take 0)) 0 (-0) zs w := ⟨ho, hk, hl, by simp [Nm.val], Below.refl _ _, rfl⟩
    have HC : Hid (∀ i, i < ys.length → w.cell? ⟨b, off + i, none⟩ = some (.int .u64 (ys.getD i 0))) := hcell
    have HM : Hid (ys.length = m) := hm
    have HT : Hid (0 ≤ Nm.val zs - Nm.val ys) := hT
    have HY : Hid (Nm.Limbs ys) := hly
    clear hcell hm hT hly hq ho hk hl
    go_enter Tryz.func39, Tryz.ntmps39
    go_wp2
    go_loopw [4, 10] (fun c i wr => ∃ (j : Nat) (cc : Int) (os : List Int), j ≤ m ∧ i = .int .i64 j ∧ c = .int .u64 cc ∧ 0 ≤ cc ∧ cc ≤ 1 ∧ AddInv g k w (Nm.val zs - Nm.val (ys.take j)) j (-cc) os wr) (fun _ i _ => m - (intOf i).toNat)
    case atStart => exact ⟨0, 0, zs, Nat.zero_le _, rfl, rfl, by omega, by omega, I0⟩
    case round =>
      clear I0
      obtain ⟨j, cc, os, hj, rfl, rfl, hc0, hc1, I⟩ := hrel
      by_cases hlt : j < m
      · obtain ⟨x, hx, X⟩ : ∃ x, wr.cell? ⟨b, off + j, none⟩ = some (.int .u64 x) ∧ Hid (x = ys.getD j 0) :=
          ⟨_, (I.2.2.2.2.1.cell (p := ⟨b, off + j, none⟩) (hbg (by have := HM.out; omega))).trans (HC.out j (by have := HM.out; omega)), rfl⟩
        obtain ⟨y, hyc, Y⟩ : ∃ y, wr.cell? ⟨g, j, none⟩ = some (.int .u64 y) ∧ Hid (y = os.getD j 0) := ⟨_, I.1.cell j (by have := I.2.1; omega), rfl⟩
        have hfr := I.1.free j
        have hx0 := HY.out.at j
        rw [← X.out] at hx0
        obtain ⟨hx0, hx1⟩ := hx0
        have hy0 := I.2.2.1.at j
        rw [← Y.out] at hy0
        obtain ⟨hy0, hy1⟩ := hy0
        obtain ⟨s, c', hs, hc', E⟩ := sub_names y x cc hy0 hy1 hx0 hx1 hc0 hc1
        have hjk : (j : Int) < (k : Int) := by omega
        go_wp2_with (simp only [sub64' y x cc s c' hy0 hy1 hx0 hx1 hc0 hc1 hs hc' E.out])
        go_roundw
        case rel =>
          have hst := I.down (by omega) (x := -x) (s := s) (c' := -c') hs (by rw [← Y.out]; exact E.out)
          refine ⟨j + 1, c', os.set j s, by omega, by go_num, rfl, hc'.1, hc'.2, ?_⟩
          have e : Nm.val zs - Nm.val (ys.take (j + 1)) = Nm.val zs - Nm.val (ys.take j) + Nm.pw j * (-x) := by
            rw [Nm.val_take_succ ys j (by have := HM.out; omega), ← X.out, Int.mul_neg]
            omega
          rw [e]
          exact hst
        case measure => simp [intOf]; omega
      · have hjm : j = m := by omega
        subst hjm
        rw [List.take_of_length_le (by have := HM.out; omega)] at I
        go_wp2
        go_loopw [4, 7] (fun c i wr => ∃ (t : Nat) (cc : Int) (os : List Int), t ≤ k ∧ i = .int .i64 t ∧ c = .int .u64 cc ∧ 0 ≤ cc ∧ cc ≤ 1 ∧ AddInv g k w (Nm.val zs - Nm.val ys) t (-cc) os wr) (fun _ i _ => k - (intOf i).toNat)
        case atStart => exact ⟨j, cc, os, hmk, rfl, rfl, hc0, hc1, I⟩
        case round =>
          clear I hc0 hc1
          obtain ⟨t, cc, os, ht, rfl, rfl, hc0, hc1, I⟩ := hrel
          by_cases hz : cc = 0
          · subst hz
            have E : Wrote g k (Nm.val zs - Nm.val ys) w wr := ⟨os, I.1, I.2.1, I.2.2.1, by have := I.2.2.2.1; simp at this; omega, I.2.2.2.2.1, I.2.2.2.2.2⟩
            clear I
            go_wp2
            go_end0
            exact ⟨rfl, E⟩
          · have htk := I.stop HT.out (by omega)
            have htk' : (t : Int) < (k : Int) := by omega
            obtain ⟨y, hyc, Y⟩ : ∃ y, wr.cell? ⟨g, t, none⟩ = some (.int .u64 y) ∧ Hid (y = os.getD t 0) := ⟨_, I.1.cell t (by have := I.2.1; omega), rfl⟩
            have hfr := I.1.free t
            have hy0 := I.2.2.1.at t
            rw [← Y.out] at hy0
            obtain ⟨hy0, hy1⟩ := hy0
            obtain ⟨s, c', hs, hc', E⟩ := sub_names y 0 cc hy0 hy1 (by omega) (by omega) hc0 hc1
            go_wp2_with (simp only [sub64' y 0 cc s c' hy0 hy1 (Int.le_refl 0) (by decide) hc0 hc1 hs hc' E.out])
            go_roundw
            case rel =>
              have hst := I.down (by omega) (x := -0) (s := s) (c' := -c') hs (by rw [← Y.out]; exact E.out)
              rw [Int.neg_zero, Int.mul_zero, Int.add_zero] at hst
              exact ⟨t + 1, c', os.set t s, by omega, by go_num, rfl, hc'.1, hc'.2, hst⟩
            case measure => simp [intOf]; omega

theorem Arg.trim {w : World} {p : Option Addr} {n cap : Nat} {zs : List Int} (h : Arg w p n cap zs) : Arg w p (Nm.tsize zs) (Nm.tsize zs) (Nm.trim zs) :=
  ⟨Nm.trim_length zs, Nat.le_refl _, by have := h.tl; have := h.2.1; have := h.2.2.1; omega, h.2.2.2.1.trim, h.2.2.2.2.trim⟩

set_option maxHeartbeats 1000000 in
theorem sub_ok (p q : Option Addr) (n cap m cap' : Nat) (zs ys : List Int) (w : World) (ha : Arg w p n cap zs) (hb : Arg w q m cap' ys) (tz : Nm.tsize zs ≤ 4096) (hle : Nm.val ys ≤ Nm.val zs) :
    Calls Tryz.prog 16 #[.slice p n cap, .slice q m cap'] w fun e w' => ∃ r os, e = .returned (.tuple #[.slice r (List.length os) (List.length os), .int .i64 0]) ∧ Ans w.heap.size w' r os (Nm.val zs - Nm.val ys) ∧ Below w.heap.size w w' := by
  have hs : Nm.val zs < Nm.pw 4096 := (Nm.tsize_le_iff ha.2.2.2.2 4096).1 tz
  have y0 := (Nm.val_bd ys hb.2.2.2.2).1
  have ty : Nm.tsize ys ≤ 4096 := (Nm.tsize_le_iff hb.2.2.2.2 4096).2 (by omega)
  have tyz : Nm.tsize ys ≤ Nm.tsize zs := by
    have h1 := Nm.val_lt_tsize ha.2.2.2.2
    exact (Nm.tsize_le_iff hb.2.2.2.2 _).2 (by omega)
  have AT := hid ha.trim
  have BT := hid hb.trim
  obtain ⟨a1, a2, a3, a4, a5⟩ := ha
  obtain ⟨b1, b2, b3, b4, b5⟩ := hb
  obtain ⟨c, C⟩ : ∃ c, Hid (cmpI (Nm.val (Nm.trim zs)) (Nm.val (Nm.trim ys)) = c) := ⟨_, rfl⟩
  have hc : ¬ c < 0 := by
    rw [← C.out, Nm.val_trim, Nm.val_trim]
    unfold cmpI
    rw [if_neg (by omega)]
    split <;> omega
  have V : Hid (Nm.val (Nm.trim zs) - Nm.val (Nm.trim ys) = Nm.val zs - Nm.val ys) := by rw [Hid, Nm.val_trim, Nm.val_trim]
  have HS : Hid (0 ≤ Nm.val (Nm.trim zs) - Nm.val (Nm.trim ys) ∧ Nm.val (Nm.trim zs) - Nm.val (Nm.trim ys) < Nm.pw 4096) := by rw [Hid, Nm.val_trim, Nm.val_trim]; omega
  clear hs y0 hle
  go_enter Tryz.func16, Tryz.ntmps16
  go_wp2_with fail
  refine (pair_ok p q n cap m cap' zs ys _ a1 a2 (by omega) a4 tz b1 b2 (by omega) b4 ty).mono ?_
  rintro e w' ⟨rfl, rfl⟩
  go_wp2_with fail
  refine (cmp_is c p q _ _ _ _ (Nm.trim zs) (Nm.trim ys) _ AT.out BT.out C.out).mono ?_
  rintro e w1 ⟨rfl, hb1⟩
  have D1 := hid hb1
  clear hb1
  go_wp2_with fail
  refine (widened_any p (Nm.tsize zs) (Nm.tsize zs) 0 0 (Nm.trim zs) _ rfl (Nm.trim_length zs) (by omega) (AT.out.below D1.out (Nat.le_refl _)).2.2.2.1).mono ?_
  rintro e w2 ⟨rfl, ho, hb1, hz1⟩
  rw [List.replicate_zero, List.append_nil] at ho
  have HO := hid ho
  have D2 := hid hb1
  have S1 := hid D1.out.size
  clear ho hb1 hz1
  go_wp2_with fail
  refine (subFrom_any w1.heap.size (Nm.tsize zs) (Nm.trim zs) q (Nm.tsize ys) (Nm.tsize ys) (Nm.trim ys) _ (Nm.trim_length zs) (by omega) HO.out a5.trim (Nm.trim_length ys) tyz ((BT.out.below D1.out (Nat.le_refl _)).2.2.2.1.below D2.out (Nat.le_refl _)) b5.trim (fun h0 => (BT.out.below D1.out (Nat.le_refl _)).2.2.2.1.lt h0) HS.out.1).mono ?_
  rintro e w3 ⟨rfl, hw⟩
  obtain ⟨os, o1, o2, o3, o4, o5, o6⟩ := hw
  have HO3 := hid o1
  have O4 := hid o4
  have HB2 := hid o5
  clear o1 o4 o5 o6
  go_wp2_with fail
  refine (limited_own w1.heap.size (Nm.tsize zs) os _ o2 (by omega) HO3.out o3 w'.heap.size S1.out (by rw [O4.out]; exact HS.out.2)).mono ?_
  rintro e w4 ⟨r, xs, rfl, hans, rfl⟩
  rw [O4.out, V.out] at hans
  have HA := hid hans
  clear hans
  go_wp2_with fail
  go_ret2
  exact ⟨r, xs, rfl, HA.out, D1.out.trans ((D2.out.trans HB2.out).mono S1.out)⟩

set_option maxHeartbeats 1000000 in
theorem sub_below (p q : Option Addr) (n cap m cap' : Nat) (zs ys : List Int) (w : World) (ha : Arg w p n cap zs) (hb : Arg w q m cap' ys) (tz : Nm.tsize zs ≤ 4096) (ty : Nm.tsize ys ≤ 4096) (hlt : Nm.val zs < Nm.val ys) :
    Calls Tryz.prog 16 #[.slice p n cap, .slice q m cap'] w fun e w' => e = .returned (.tuple #[.slice none 0 0, .int .i64 10]) ∧ Below w.heap.size w w' := by
  have AT := hid ha.trim
  have BT := hid hb.trim
  obtain ⟨a1, a2, a3, a4, a5⟩ := ha
  obtain ⟨b1, b2, b3, b4, b5⟩ := hb
  have C := hid (cmpI_lt hlt)
  rw [← Nm.val_trim zs, ← Nm.val_trim ys] at C
  clear hlt
  go_enter Tryz.func16, Tryz.ntmps16
  go_wp2_with fail
  refine (pair_ok p q n cap m cap' zs ys _ a1 a2 (by omega) a4 tz b1 b2 (by omega) b4 ty).mono ?_
  rintro e w' ⟨rfl, rfl⟩
  go_wp2_with fail
  refine (cmp_is _ p q _ _ _ _ (Nm.trim zs) (Nm.trim ys) _ AT.out BT.out C.out).mono ?_
  rintro e w1 ⟨rfl, hb1⟩
  have D1 := hid hb1
  clear hb1
  go_wp2_with fail
  go_ret2
  exact ⟨rfl, D1.out⟩
end Go.Proofs.YtbdbpjghmejfjaaGreatDoor

namespace Go.Proofs.YtbdbpjghmejfjaaGreatDoor
open Go.RowKit Go.Deep

theorem wv_map {xs : List Int} (h : Digs xs) : xs.map wv = xs.map (fun d => d - 48) := List.map_congr_left (fun x hx => wv_dig (h x hx))

set_option maxRecDepth 100000 in
theorem read_any (s : ByteArray) (xs : List Int) (w : World) (hs : Str s xs) (hl : xs.length ≤ 140737488355328) (hd : Digs xs) (h0 : xs ≠ []) (hv : dv xs < Nm.pw 4096) :
    Calls Tryz.prog 13 #[.string s] w fun e w' => ∃ r os, e = .returned (.tuple #[.slice r (List.length os) (List.length os), .int .i64 0, .int .i64 0]) ∧ Ans w.heap.size w' r os (dv xs) ∧ Below w.heap.size w w' := by
  have FB : Hid (Calls Tryz.prog 32 #[.string s, .int .i64 10] w fun e w' => ∃ r os, e = .returned (.tuple #[.slice r (List.length os) (List.length os), .int .i64 0, .int .i64 0]) ∧ Ans w.heap.size w' r os (dv xs) ∧ Below w.heap.size w w') := by
    refine (fromBase_any s xs 10 w hs hl (by omega) (by omega)).mono ?_
    rintro e w' ⟨r, os, at_, E, rfl, h, d⟩
    have ev : Dn.tv 10 0 (xs.map wv) = dv xs := by rw [wv_map hd]; rfl
    cases h with
    | base h => omega
    | empty _ _ h => exact absurd h h0
    | digit t _ _ h1 _ h3 =>
      have := digs_at hd t h1
      rw [wv_dig this] at h3
      omega
    | big _ _ _ _ h =>
      rw [ev] at h
      exact absurd hv (Int.not_lt.2 h)
    | ok r os _ _ _ _ _ h =>
      rw [ev] at h
      exact ⟨r, os, rfl, h, d⟩
  clear hs hl hd h0 hv
  go_enter Tryz.func13, Tryz.ntmps13
  go_wp2_with fail
  refine FB.out.mono ?_
  rintro e w1 ⟨r, os, rfl, A1, d1⟩
  have F := hid (And.intro A1 d1)
  clear A1 d1 FB
  go_wp2_with fail
  go_ret3
  exact ⟨r, os, rfl, F.out⟩

end Go.Proofs.YtbdbpjghmejfjaaGreatDoor
