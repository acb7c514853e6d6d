/-
  Texts put together: FZeros, FZero, FHeads, FTab.
-/
import Derived.Test.YtbdbpjghmejfjaaGreatDoorNMem
import Derived.Test.YtbdbpjghmejfjaaGreatDoorNStr
import Derived.Test.YtbdbpjghmejfjaaGreatDoorNRaise
import Derived.Test.YtbdbpjghmejfjaaGreatDoorRF
import Derived.Test.YtbdbpjghmejfjaaGreatDoorRI
import Derived.Lib.LaidTab
namespace Go.Proofs.YtbdbpjghmejfjaaGreatDoor
open Go Go.RowKit Go.Deep

theorem zset (k u : Nat) : (List.replicate k (48 : Int) ++ List.replicate (u + 1) 0).set k 48 = List.replicate (k + 1) 48 ++ List.replicate u 0 := by
  rw [List.set_append_right _ _ (by simp), List.length_replicate, Nat.sub_self, List.replicate_succ, List.set_cons_zero, List.replicate_succ', List.append_assoc]
  rfl

theorem OwnB.str {w : World} {g cap : Nat} {zs : List Int} (h : OwnB w g zs) (hz : ∀ x ∈ zs, 0 ≤ x ∧ x < 256) (n : Nat) (hn : zs.length = n) :
    ∃ s, Str s zs ∧ (convert 70 9 (.slice (some ⟨g, 0, none⟩) n cap)).run Tryz.prog w = .ok (.string s) w :=
  ⟨strOfNums zs, Str.of_nums hz, run_convert_bytes_arg (P := Tryz.prog) w 70 5 Tryz.underlying70 Tryz.underlying5 g 0 n cap zs hn (fun i hi => by
    rw [Nat.zero_add, h.cell i (by omega)]) 9 Tryz.underlying9⟩

set_option maxRecDepth 100000 in
set_option maxHeartbeats 1000000 in
theorem lzeros_any (n : Nat) (w : World) (hn : n ≤ 100000) :
    Calls Tryz.prog 20 #[.int .i64 (n : Int)] w fun e w' => ∃ s, e = .returned (.string s) ∧ Str s (List.replicate n 48) ∧ Below w.heap.size w w' := by
  have mk := make8 n (by omega) w
  have bm : Below w.heap.size w (w.alloc (.cells (madeCells #[.int .u8 0] n) 5)) := (Below.refl _ _).alloc (Nat.le_refl _) _
  have ob : OwnB (w.alloc (.cells (madeCells #[.int .u8 0] n) 5)) w.heap.size (List.replicate n 0) := by rw [made_zero8]; exact OwnB.alloc w _
  obtain ⟨w1, hw1⟩ : ∃ w1, w.alloc (.cells (madeCells #[.int .u8 0] n) 5) = w1 := ⟨_, rfl⟩
  rw [hw1] at mk bm ob
  have HBM := hid bm
  have HOB := hid ob
  have hni : (n : Int) ≤ 100000 := by omega
  obtain ⟨g, HG⟩ : ∃ g, Hid (w.heap.size = g) := ⟨_, rfl⟩
  rw [HG.out] at mk HOB
  clear bm ob hw1 hn
  go_enter Tryz.func20, Tryz.ntmps20
  go_wp2_with fail
  go_loopg [4] n (fun j i wr => ∃ k : Nat, k + j = n ∧ i = .int .i64 (k : Int) ∧ Hid (OwnB wr g (List.replicate k 48 ++ List.replicate j 0) ∧ Below w.heap.size w wr))
  case atStart => exact ⟨0, by omega, rfl, by simpa using HOB.out, HBM.out⟩
  case round =>
    obtain ⟨k, hk, rfl, I⟩ := hrel
    cases gk with
    | zero =>
      obtain ⟨s, hs, cv⟩ := I.out.1.str (cap := n) (fun x hx => by simp at hx; omega) n (by simp; omega)
      have F : Hid (Str s (List.replicate n 48)) := by
        have := hs
        rw [List.replicate_zero, List.append_nil, show k = n by omega] at this
        exact this
      have B := hid I.out.2
      have hki : ¬ (k : Int) < (n : Int) := by omega
      clear hs I HBM HOB
      go_wp2_with fail
      go_ret
      exact ⟨s, rfl, F.out, B.out⟩
    | succ u =>
      have hki : (k : Int) < (n : Int) := by omega
      have hc := I.out.1.cell k (by simp)
      have hf := I.out.1.free k
      have F : Hid (OwnB (wr.setCell ⟨g, k, none⟩ (.int .u8 48)) g (List.replicate (k + 1) 48 ++ List.replicate u 0) ∧ Below w.heap.size w (wr.setCell ⟨g, k, none⟩ (.int .u8 48))) := by
        refine ⟨?_, I.out.2.setCell (p := ⟨g, k, none⟩) (Nat.le_of_eq HG.out) _⟩
        have := I.out.1.set k 48
        rw [zset] at this
        exact this
      generalize (List.replicate k (48 : Int) ++ List.replicate (u + 1) 0).getD k 0 = x at *
      clear I HBM HOB
      go_wp2_with fail
      go_roundg u
      case measure => omega
      case rel => exact ⟨k + 1, by omega, by go_num, F.out⟩

set_option maxRecDepth 100000 in
set_option maxHeartbeats 1000000 in
theorem rzeros_any (n : Nat) (w : World) (hn : n ≤ 100000) :
    Calls Tryz.prog 44 #[.int .i64 (n : Int)] w fun e w' => ∃ s, e = .returned (.string s) ∧ Str s (List.replicate n 48) ∧ Below w.heap.size w w' := by
  have mk := make8 n (by omega) w
  have bm : Below w.heap.size w (w.alloc (.cells (madeCells #[.int .u8 0] n) 5)) := (Below.refl _ _).alloc (Nat.le_refl _) _
  have ob : OwnB (w.alloc (.cells (madeCells #[.int .u8 0] n) 5)) w.heap.size (List.replicate n 0) := by rw [made_zero8]; exact OwnB.alloc w _
  obtain ⟨w1, hw1⟩ : ∃ w1, w.alloc (.cells (madeCells #[.int .u8 0] n) 5) = w1 := ⟨_, rfl⟩
  rw [hw1] at mk bm ob
  have HBM := hid bm
  have HOB := hid ob
  have hni : (n : Int) ≤ 100000 := by omega
  obtain ⟨g, HG⟩ : ∃ g, Hid (w.heap.size = g) := ⟨_, rfl⟩
  rw [HG.out] at mk HOB
  clear bm ob hw1 hn
  go_enter Tryz.func44, Tryz.ntmps44
  go_wp2_with fail
  go_loopg [4] n (fun j i wr => ∃ k : Nat, k + j = n ∧ i = .int .i64 (k : Int) ∧ Hid (OwnB wr g (List.replicate k 48 ++ List.replicate j 0) ∧ Below w.heap.size w wr))
  case atStart => exact ⟨0, by omega, rfl, by simpa using HOB.out, HBM.out⟩
  case round =>
    obtain ⟨k, hk, rfl, I⟩ := hrel
    cases gk with
    | zero =>
      obtain ⟨s, hs, cv⟩ := I.out.1.str (cap := n) (fun x hx => by simp at hx; omega) n (by simp; omega)
      have F : Hid (Str s (List.replicate n 48)) := by
        have := hs
        rw [List.replicate_zero, List.append_nil, show k = n by omega] at this
        exact this
      have B := hid I.out.2
      have hki : ¬ (k : Int) < (n : Int) := by omega
      clear hs I HBM HOB
      go_wp2_with fail
      go_ret
      exact ⟨s, rfl, F.out, B.out⟩
    | succ u =>
      have hki : (k : Int) < (n : Int) := by omega
      have hc := I.out.1.cell k (by simp)
      have hf := I.out.1.free k
      have F : Hid (OwnB (wr.setCell ⟨g, k, none⟩ (.int .u8 48)) g (List.replicate (k + 1) 48 ++ List.replicate u 0) ∧ Below w.heap.size w (wr.setCell ⟨g, k, none⟩ (.int .u8 48))) := by
        refine ⟨?_, I.out.2.setCell (p := ⟨g, k, none⟩) (Nat.le_of_eq HG.out) _⟩
        have := I.out.1.set k 48
        rw [zset] at this
        exact this
      generalize (List.replicate k (48 : Int) ++ List.replicate (u + 1) 0).getD k 0 = x at *
      clear I HBM HOB
      go_wp2_with fail
      go_roundg u
      case measure => omega
      case rel => exact ⟨k + 1, by omega, by go_num, F.out⟩
end Go.Proofs.YtbdbpjghmejfjaaGreatDoor

namespace Go.Proofs.YtbdbpjghmejfjaaGreatDoor
open Go Go.RowKit Go.Deep

theorem Ie.fzero {d : Int} (h : Ie.fnt d = true) : Ie.dm d = 0 ↔ d % 9223372036854775808 = 0 := by
  have hc : Ie.cls d < 3 := of_decide_eq_true h
  rw [← (Ie.fdec d hc).2.2.2.2]
  unfold Ie.cls Ie.fld
  constructor
  · intro g
    split at g
    · split at g <;> omega
    · split at g
      · split at g <;> omega
      · omega
  · intro g
    rw [if_pos (by omega), if_pos (by omega)]
end Go.Proofs.YtbdbpjghmejfjaaGreatDoor

namespace Go.Proofs.YtbdbpjghmejfjaaGreatDoor
open Go Go.RowKit Go.Deep

set_option maxRecDepth 100000 in
set_option maxHeartbeats 8000000 in
theorem heads_law (d n : Int) (w : World) (hT : Tab w) (h0 : 0 ≤ d) (h1 : d < 18446744073709551616) (n0 : -9223372036854775808 ≤ n) (n1 : n ≤ 9223372036854775807) :
    Calls Tryz.prog 5 #[.int .u64 d, .int .i64 n] w fun e w' => e = .returned (.bool true) ∧ Below w.heap.size w w' := by
  have PC : Hid (Calls Tryz.prog 19 #[.int .u64 4652002910794678272, .int .i64 3] w fun e w' => e = .returned (.tuple #[.string ⟨#[49, 48, 48]⟩, .int .i64 3, .int .i64 0]) ∧ Below w.heap.size w w') := by
    refine (figures_any 4652002910794678272 3 w hT (by omega) (by omega)).mono ?_
    rintro e w' ⟨s, rfl, hs, hB⟩
    obtain ⟨r, a, b⟩ := Fx.fg9995
    rw [a] at hs
    have e1 : s = ⟨#[49, 48, 48]⟩ := hs.inj rfl
    rw [r, b, e1]
    exact ⟨rfl, hB⟩
  have PL : Hid (∀ wx : World, Below w.heap.size w wx → Calls Tryz.prog 19 #[.int .u64 d, .int .i64 n] wx fun e w' => FiguresTold d n wx e w') := fun wx hB => figures_any d n wx (hT.below hB) h0 h1
  have FI := hid (fun wx : World => lfinite_any d wx h0 h1)
  by_cases hf : Ie.fnt d = true
  · rw [hf] at FI
    by_cases hn : n < 1 ∨ 4200 < n
    · have R : Fx.rf d n 1 = 1 := by rw [Fx.rf, if_pos hf, if_pos hn]
      have PL2 : Hid (∀ wx : World, Below w.heap.size w wx → Calls Tryz.prog 19 #[.int .u64 d, .int .i64 n] wx fun e w' => e = .returned (.tuple #[.string ⟨#[]⟩, .int .i64 0, .int .i64 1]) ∧ Below wx.heap.size wx w') := by
        intro wx hB
        refine (PL.out wx hB).mono ?_
        rintro e w' ⟨s, rfl, hs, hB⟩
        rw [Fx.gS, if_neg (by omega)] at hs
        have e1 : s = ⟨#[]⟩ := hs.inj rfl
        rw [Fx.gK, if_neg (by omega), R, e1]
        exact ⟨rfl, hB⟩
      clear PL R hT h0 h1 hf
      rcases (show n < 1 ∨ (1 ≤ n ∧ 4200 < n) by omega) with hn | ⟨hn, hn2⟩
      all_goals
        go_enter Tryz.func5, Tryz.ntmps5
        go_wp2_with fail
        refine PC.out.mono ?_
        rintro e w1 ⟨rfl, B1⟩
        have HB1 := hid B1
        clear B1 PC
        go_wp2_with fail
        refine (PL2.out _ HB1.out).mono ?_
        rintro e w3 ⟨rfl, B3⟩
        have HB3 := hid (HB1.out.trans (B3.mono HB1.out.size))
        clear B3 PL2 HB1
        go_wp2_with fail
        refine (FI.out _).mono ?_
        rintro e wz ⟨rfl, hz⟩
        replace hz := hz.symm
        subst hz
        go_wp2_with fail
        go_ret
        exact ⟨rfl, HB3.out⟩
    · obtain ⟨k, rfl⟩ := Int.eq_ofNat_of_zero_le (show 0 ≤ n by omega)
      have hk : k ≤ 4200 := by omega
      have hk1 : 1 ≤ k := by omega
      have R : Fx.rf d k 1 = 0 := Fx.rf_zero.2 ⟨hf, by omega, by omega⟩
      have PL2 : Hid (∀ wx : World, Below w.heap.size w wx → Calls Tryz.prog 19 #[.int .u64 d, .int .i64 (k : Int)] wx fun e w' => ∃ s, e = .returned (.tuple #[.string s, .int .i64 (Fx.gK d k), .int .i64 0]) ∧ Str s (Fx.gS d k) ∧ Below wx.heap.size wx w') := by
        intro wx hB
        refine (PL.out wx hB).mono ?_
        rintro e w' ⟨s, rfl, hs, hB⟩
        exact ⟨s, by rw [R], hs, hB⟩
      have AN := Ib.sign_andNot d h0 h1
      obtain ⟨a, ha⟩ : ∃ a, d % 9223372036854775808 = a := ⟨_, rfl⟩
      rw [ha] at AN
      have hki : (k : Int) ≤ 4200 := by omega
      have hki1 : (1 : Int) ≤ (k : Int) := by omega
      by_cases hz : a = 0
      · obtain ⟨g1, g2⟩ := Fx.fig_zero hf ((Ie.fzero hf).2 (by omega)) hk1 hk
        rw [g1, g2] at PL2
        have ZR := hid (fun wx : World => lzeros_any k wx (by omega))
        have DA : Hid (∀ (wx : World) (s : ByteArray), Str s (List.replicate k 48) → Calls Tryz.prog 12 #[.string s] wx fun e w' => e = .returned (.bool true) ∧ w' = wx) := fun wx s h => ldigits_any s _ wx h (fun x hx => by have := List.eq_of_mem_replicate hx; omega) (by simp; omega)
        have SI : Hid (∀ s t : ByteArray, Str s (List.replicate k 48) → Str t (List.replicate k 48) → t = s) := fun s t h g => g.inj h
        have SZ : Hid (∀ s : ByteArray, Str s (List.replicate k 48) → s.size = k) := fun s h => by rw [h.size, List.length_replicate]
        subst hz
        clear PL R hT h0 h1 hf ha g1 g2 hn
        go_enter Tryz.func5, Tryz.ntmps5
        go_wp2_with fail
        refine PC.out.mono ?_
        rintro e w1 ⟨rfl, B1⟩
        have HB1 := hid B1
        clear B1 PC
        go_wp2_with fail
        refine (PL2.out _ HB1.out).mono ?_
        rintro e w3 ⟨s, rfl, hs, B3⟩
        have HB3 := hid (HB1.out.trans (B3.mono HB1.out.size))
        have HS := hid hs
        have hsz := SZ.out s hs
        clear B3 PL2 HB1 hs SZ
        go_wp2_with fail
        refine (FI.out _).mono ?_
        rintro e wz ⟨rfl, hz⟩
        replace hz := hz.symm
        subst hz
        go_wp2_with fail
        refine (DA.out _ s HS.out).mono ?_
        rintro e wz ⟨rfl, hz⟩
        replace hz := hz.symm
        subst hz
        clear DA FI
        go_wp2_with fail
        refine (ZR.out _).mono ?_
        rintro e w4 ⟨t, rfl, ht, B4⟩
        have K := hid (HB3.out.trans (B4.mono HB3.out.size))
        obtain rfl := SI.out s t HS.out ht
        clear ht B4 ZR SI HB3 HS
        go_wp2_with fail
        go_ret
        exact ⟨by simp, K.out⟩
      · have m0 : 0 < Ie.dm d := by
          have := (Ie.fdec d (of_decide_eq_true hf)).1
          have := Ie.fzero hf
          omega
        have hz' : (a == 0) = false := by rw [beq_eq_false_iff_ne]; exact hz
        obtain ⟨f1, f2, f3, f4, f5, f6⟩ := Fx.fig_facts hf m0 hk1 hk
        have DA : Hid (∀ (wx : World) (s : ByteArray), Str s (Fx.gS d k) → Calls Tryz.prog 12 #[.string s] wx fun e w' => e = .returned (.bool true) ∧ w' = wx) := fun wx s h => ldigits_any s _ wx h f2 (by omega)
        have SZ : Hid (∀ s : ByteArray, Str s (Fx.gS d k) → s.size = k ∧ ∃ x : Int, (x == 48) = false ∧ ∀ h : 0 < s.size, ((s[0]'h).toNat : Int) = x) := fun s h => ⟨by rw [h.size, f1], (Fx.gS d k).getD 0 0, by rw [beq_eq_false_iff_ne]; exact f3, fun g => h.at 0 g⟩
        have PC2 : Hid (∀ (wx : World) (q : Nat), (q : Int) = k - 1 - Fx.gK d k → q ≤ 4200 → Below w.heap.size w wx → Calls Tryz.prog 9 #[.int .u64 d, .int .i64 (q : Int)] wx fun e w' => ∃ s t z, e = .returned (.tuple #[.string s, .string t, .int .i64 0]) ∧ z ≤ 6000 ∧ Str (s ++ t) (List.replicate z 48 ++ Fx.gS d k) ∧ Below wx.heap.size wx w' ∧ (s.size : Int) ≤ 6000 ∧ (t.size : Int) ≤ 6000) := by
          intro wx q hq hq1 hB
          refine (places_any d q wx (hT.below hB) h0 h1).mono ?_
          rintro e w' ⟨s, t, rfl, hs, ht, hB⟩
          have r2 : Fx.rf d q 0 = 0 := Fx.rf_zero.2 ⟨hf, by omega, by omega⟩
          obtain ⟨z, hz⟩ := f6 q hq
          obtain ⟨a1, a2, -, -, -, a6, -⟩ := Fx.pA_facts hf hq1
          have wl := Fx.dv_W_room hf hq1
          have lz : z ≤ 6000 := by rw [hz, List.length_append, List.length_replicate] at wl; omega
          have hst : Str (s ++ t) (Fx.W d q) := by rw [← a1]; exact hs.app ht
          rw [hz] at hst
          exact ⟨s, t, z, by rw [r2], lz, hst, hB, by rw [hs.size]; omega, by rw [ht.size, a2]; omega⟩
        have XS : Hid (∀ s t : ByteArray, Str s (Fx.gS d k) → Str t (Fx.gS d k) → t = s) := fun s t h g => g.inj h
        have LP : Hid (∀ (s : ByteArray) (z : Nat), Str s (List.replicate z 48 ++ Fx.gS d k) → s.size = z + k) := fun s z h => by rw [h.size, List.length_append, List.length_replicate, f1]
        have L0 : Hid (∀ (s : ByteArray) (z : Nat), Str s (List.replicate (z + 1) 48 ++ Fx.gS d k) → (∀ h : 0 < s.size, ((s[0]'h).toNat : Int) = 48) ∧ Str (s.extract 1 s.size) (List.replicate z 48 ++ Fx.gS d k)) := by
          intro s z h
          refine ⟨fun g => by rw [h.at 0 g]; simp [List.replicate_succ], ?_⟩
          have e := h.extract 1 s.size
          rw [List.take_of_length_le (by rw [List.length_drop, h.size]; omega)] at e
          simpa [List.replicate_succ] using e
        obtain ⟨y, hy⟩ : ∃ y, Fx.gK d k = y := ⟨_, rfl⟩
        rw [hy] at f4 f5 PL2 PC2
        generalize Fx.gS d k = G at *
        clear PL R hT h0 h1 hf ha hn f1 f2 f3 f6 m0 hz hy
        obtain ⟨q, hq⟩ : ∃ q, (k : Int) - 1 - y = q := ⟨_, rfl⟩
        rw [hq] at PC2
        go_enter Tryz.func5, Tryz.ntmps5
        go_wp2_with fail
        refine PC.out.mono ?_
        rintro e w1 ⟨rfl, B1⟩
        have HB1 := hid B1
        clear B1 PC
        go_wp2_with fail
        refine (PL2.out _ HB1.out).mono ?_
        rintro e w3 ⟨s, rfl, hs, B3⟩
        have HB3 := hid (HB1.out.trans (B3.mono HB1.out.size))
        have HS := hid hs
        obtain ⟨hsz, x, hx, hx0⟩ := SZ.out s hs
        clear B3 PL2 HB1 hs SZ
        go_wp2_with fail
        refine (FI.out _).mono ?_
        rintro e wz ⟨rfl, hz⟩
        replace hz := hz.symm
        subst hz
        go_wp2_with fail
        refine (DA.out _ s HS.out).mono ?_
        rintro e wz ⟨rfl, hz⟩
        replace hz := hz.symm
        subst hz
        clear DA FI
        rcases (show q < 0 ∨ (0 ≤ q ∧ 4200 < q) ∨ (0 ≤ q ∧ q ≤ 4200) by omega) with hq0 | ⟨hq0, hq1⟩ | ⟨hq0, hq1⟩
        · go_wp2_with fail
          go_ret
          exact ⟨rfl, HB3.out⟩
        · go_wp2_with fail
          go_ret
          exact ⟨rfl, HB3.out⟩
        · obtain ⟨u, rfl⟩ := Int.eq_ofNat_of_zero_le hq0
          have P3 := hid (PC2.out w3 u rfl (by omega) HB3.out)
          clear PC2
          go_wp2_with fail
          refine P3.out.mono ?_
          rintro e w4 ⟨s4, t4, z, rfl, hz4, hst, B4, sz4, tz4⟩
          have HB4 := hid (HB3.out.trans (B4.mono HB3.out.size))
          have HST := hid hst
          have HZ4 := hid hz4
          clear B4 hst HB3 P3 hz4
          go_wp2_with fail
          go_loopg [12] z (fun j v wr => wr = w4 ∧ j ≤ z ∧ ∃ s', v = .string s' ∧ Hid (Str s' (List.replicate j 48 ++ G)))
          case atStart => exact ⟨rfl, Nat.le_refl _, _, rfl, HST.out⟩
          case round =>
            obtain ⟨rfl, hjz, s', rfl, I⟩ := hrel
            have hs' := LP.out s' gk I.out
            cases gk with
            | zero =>
              have hs2 : s'.size = k := by omega
              obtain rfl := XS.out s s' HS.out (by simpa using I.out)
              clear hs' I XS LP L0 HST
              go_wp2_with fail
              go_ret
              exact ⟨rfl, HB4.out⟩
            | succ r =>
              obtain ⟨i0, i1⟩ := L0.out s' r I.out
              have I1 := hid i1
              have hkz : (k : Int) < ((r + 1 + k : Nat) : Int) := by omega
              have hrz : ((r + 1 + k : Nat) : Int) ≤ 20000 := by have := HZ4.out; omega
              clear i1 I XS LP L0 HST
              go_wp2_with fail
              go_roundg r
              case measure => omega
              case rel => exact ⟨rfl, by omega, _, rfl, by have e := hs'; rw [← e]; exact I1.out⟩
  · have hf' : Ie.fnt d = false := by simpa using hf
    rw [hf'] at FI
    have R : Fx.rf d n 1 = 5 := by rw [Fx.rf, if_neg hf]
    have PL2 : Hid (∀ wx : World, Below w.heap.size w wx → Calls Tryz.prog 19 #[.int .u64 d, .int .i64 n] wx fun e w' => e = .returned (.tuple #[.string ⟨#[]⟩, .int .i64 0, .int .i64 5]) ∧ Below wx.heap.size wx w') := by
      intro wx hB
      refine (PL.out wx hB).mono ?_
      rintro e w' ⟨s, rfl, hs, hB⟩
      rw [Fx.gS, if_neg (by omega)] at hs
      have e1 : s = ⟨#[]⟩ := hs.inj rfl
      rw [Fx.gK, if_neg (by omega), R, e1]
      exact ⟨rfl, hB⟩
    clear PL R hT h0 h1 hf hf'
    go_enter Tryz.func5, Tryz.ntmps5
    go_wp2_with fail
    refine PC.out.mono ?_
    rintro e w1 ⟨rfl, B1⟩
    have HB1 := hid B1
    clear B1 PC
    go_wp2_with fail
    refine (PL2.out _ HB1.out).mono ?_
    rintro e w3 ⟨rfl, B3⟩
    have HB3 := hid (HB1.out.trans (B3.mono HB1.out.size))
    clear B3 PL2 HB1
    go_wp2_with fail
    refine (FI.out _).mono ?_
    rintro e wz ⟨rfl, hz⟩
    replace hz := hz.symm
    subst hz
    go_wp2_with fail
    go_ret
    exact ⟨rfl, HB3.out⟩
end Go.Proofs.YtbdbpjghmejfjaaGreatDoor

namespace Go.Proofs.YtbdbpjghmejfjaaGreatDoor
open Go Go.RowKit Go.Deep

theorem tab_laid : (Rows.laid_math_bits_deBruijn64tab : DataW Unit) = Lib.tabData .u8 (List.map Int.ofNat Lib.deBruijn64tab) := by kernel_rfl

theorem tab_of {W : World} {rest : List (String × DataW Unit)} (h : laidMet Tryz.prog (("math/bits.deBruijn64tab", Rows.laid_math_bits_deBruijn64tab) :: rest) W) : Tab W := by
  rw [tab_laid] at h
  have ht := Lib.tabIs_of_head (g := 0) (t := 99) (e := 5) (n := 64) (k := .u8) (zs := List.map Int.ofNat Lib.deBruijn64tab) (by kernel_rfl) (by kernel_rfl) Tryz.underlying99 Tryz.underlying5 (by kernel_rfl) (by kernel_rfl) h
  intro j hj
  have hl : (List.map Int.ofNat Lib.deBruijn64tab).length = Lib.deBruijn64tab.length := by simp
  rw [ht.cell (g := 0) (by kernel_rfl) j (by omega)]
  simp [List.getD, hj]

end Go.Proofs.YtbdbpjghmejfjaaGreatDoor
