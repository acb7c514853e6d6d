/-
  abacuslaw14: WholeWidens, no precision (mkjwidens.py).
-/
import Derived.Test.YtbldddagddmbgaaDoorJE
namespace Go.Proofs.YtbldddagddmbgaaDoor
open Go Go.RowKit Go.Deep Go.Shelf

set_option maxRecDepth 100000 in
set_option maxHeartbeats 8000000 in
theorem widens_m (V F W P u : Int) (neg : Bool) (p : Option Addr) (n cap : Nat) (zs t : List Int) (w : World) (ha : Arg w p n cap zs) (u0 : 0 ≤ u) (u1 : u < 18446744073709551616) (hy : Wh.By t) (hc : Wh.chk F W P = 0) (ht : ¬ 4096 < Nm.tsize zs) (tl : t.length ≤ 16777216) (hP : P = -1) :
    Calls Tryd.prog 5 #[.agg #[.int .u8 V, .int .i64 F, .int .i64 W, .int .i64 P, .bool neg, .slice p n cap, .int .u64 u, .string (strOfNums t)]] w fun e w' => e = .returned (.bool true) ∧ Below w.heap.size w w' := by
  have A0 := alloc_b w (.cells #[.int .u8 V, .int .i64 F, .int .i64 W, .int .i64 P, .bool neg, .slice p n cap, .int .u64 u, .string (strOfNums t)] 30)
  have z8 : (w.alloc (.cells #[.int .u8 V, .int .i64 F, .int .i64 W, .int .i64 P, .bool neg, .slice p n cap, .int .u64 u, .string (strOfNums t)] 30)).heap.size = w.heap.size + 1 := by show (Array.push _ _).size = _; rw [Array.size_push]
  have N0 := SB.new (w.alloc (.cells #[.int .u8 V, .int .i64 F, .int .i64 W, .int .i64 P, .bool neg, .slice p n cap, .int .u64 u, .string (strOfNums t)] 30)) V F W P
  have S0 := N0.box
  have B0 := below_on A0 N0.bel
  rw [z8] at S0
  have S0 := hid S0
  have B0 := hid B0
  clear N0 A0 z8
  have FT := hid (fun W' => forty_any W')
  have GD := hid (fun W' => good_any V F W P W')
  have TR2 : Hid (∀ W' (k : Below w.heap.size w W'), Calls Tryd.prog 12 #[.slice p n cap] W' fun e w' => ∃ r, e = .returned (.slice r (Nm.tsize zs) (Nm.tsize zs)) ∧ Below W'.heap.size W' w') := by
    intro W' k
    refine (trim_any p n cap zs W' (ha.below k (Nat.le_refl _))).mono ?_
    rintro e w' ⟨r, os, rfl, h, _, b⟩
    exact ⟨r, by rw [h, Nm.trim_length], b⟩
  have st : (strOfNums t).size = t.length := strOfNums_size t
  rw [decide_eq_true hc] at GD
  obtain ⟨⟨q0, q1⟩, ⟨wl, wu⟩, ⟨p0, p1⟩⟩ := Wh.chk_ok hc
  have hc0 : Wh.chk F 0 P = 0 := Wh.chk_of ⟨⟨q0, q1⟩, by omega, ⟨p0, p1⟩⟩
  have dz : decide (P = -1) = true := decide_eq_true hP
  have hti : ¬ (4096 : Int) < (Nm.tsize zs : Int) := by omega
  have hli : ¬ (16777216 : Int) < (t.length : Int) := by omega
  -- Signed
  have FO := Wh.fil_ok (P := P) ha.2.2.2.2 (by omega) p0 p1
  have ev : ∀ W1 : Int, Wh.chk F W1 P = 0 → Wh.sigE 100 F W1 P (Nm.tsize zs) = 0 := fun W1 h => by rw [Wh.sigE, if_pos (.inl rfl), if_pos h, if_neg ht]
  obtain ⟨SN, hSN⟩ : ∃ SN, SN = Wh.sgn F (neg && decide (Nm.val zs ≠ 0)) := ⟨_, rfl⟩
  have ysn : Wh.By SN := by rw [hSN]; exact Wh.sgn_by _ _
  have sn1 : SN = [45] ∨ SN = [43] ∨ SN = [32] ∨ SN = [] := by
    rw [hSN]; unfold Wh.sgn
    split
    · exact .inl rfl
    · split
      · exact .inr (.inl rfl)
      · split
        · exact .inr (.inr (.inl rfl))
        · exact .inr (.inr (.inr rfl))
  obtain ⟨FD, hFD⟩ : ∃ FD, FD = Wh.fil P (Wh.dig 10 false (Nm.val zs)) := ⟨_, rfl⟩
  have yfd : Wh.By FD := by rw [hFD]; exact Wh.fil_by (Wh.dig_by _ _ _)
  rw [← hFD] at FO
  have fmx := FO.max
  have fdg := FO.digs
  clear FO
  have SA : Hid (∀ W' (k : Below w.heap.size w W'), Calls Tryd.prog 13 #[.agg #[.int .u8 100, .int .i64 F, .int .i64 W, .int .i64 P], .bool neg, .slice p n cap] W' fun e w' => e = .returned (.tuple #[.string (strOfNums (Wh.wd F W (SN ++ FD) (SN.length : Int))), .int .i64 0]) ∧ Below W'.heap.size W' w') := by
    intro W' k
    refine (signed_any 100 F W P neg p n cap zs W' (by omega) (by omega) (ha.below k (Nat.le_refl _))).mono ?_
    rintro e w' ⟨rfl, b⟩
    rw [Wh.sig, ev W hc, if_pos rfl, Wh.sigT, ← hSN, ← hFD, Wh.padT_wd, dz]
    exact ⟨rfl, b⟩
  have SC : Hid (∀ W' (k : Below w.heap.size w W'), Calls Tryd.prog 13 #[.agg #[.int .u8 100, .int .i64 F, .int .i64 0, .int .i64 P], .bool neg, .slice p n cap] W' fun e w' => e = .returned (.tuple #[.string (strOfNums (SN ++ FD)), .int .i64 0]) ∧ Below W'.heap.size W' w') := by
    intro W' k
    refine (signed_any 100 F 0 P neg p n cap zs W' (by omega) (by omega) (ha.below k (Nat.le_refl _))).mono ?_
    rintro e w' ⟨rfl, b⟩
    rw [Wh.sig, ev 0 hc0, if_pos rfl, Wh.sigT, ← hSN, ← hFD, Wh.padT_zero]
    exact ⟨rfl, b⟩
  clear hSN hFD ev
  have ybn : Wh.By (SN ++ FD) := ysn.app yfd
  have lsn : SN.length ≤ 1 := by rcases sn1 with h | h | h | h <;> rw [h] <;> simp
  have lbn : (SN ++ FD).length = SN.length + FD.length := List.length_append
  have WA := hid (fun W' => lwide_any 100 F W P (SN ++ FD) (SN.length : Int) W' q0 q1 wl wu ybn (by omega) (by omega) (by omega))
  have sbn : (strOfNums (SN ++ FD)).size = (SN ++ FD).length := strOfNums_size _
  have ix : ∀ h, (((strOfNums (SN ++ FD))[0]'h).toNat : Int) = (SN ++ FD).getD 0 0 := fun h => (Str.of_nums ybn).at 0 h
  obtain ⟨hb, HB⟩ : ∃ hb : Bool, Hid (hb = decide (SN.length = 1)) := ⟨_, rfl⟩
  have HDC : ((SN ++ FD).length = 0 ∧ hb = false) ∨ (0 < (SN ++ FD).length ∧ (SN ++ FD).getD 0 0 = 45 ∧ hb = true) ∨ (0 < (SN ++ FD).length ∧ (SN ++ FD).getD 0 0 = 43 ∧ hb = true) ∨ (0 < (SN ++ FD).length ∧ (SN ++ FD).getD 0 0 = 32 ∧ hb = true) ∨ (0 < (SN ++ FD).length ∧ 48 ≤ (SN ++ FD).getD 0 0 ∧ hb = false) := by
    rw [HB.out]
    rcases sn1 with h | h | h | h
    · rw [h]; exact .inr (.inl ⟨by simp, rfl, rfl⟩)
    · rw [h]; exact .inr (.inr (.inl ⟨by simp, rfl, rfl⟩))
    · rw [h]; exact .inr (.inr (.inr (.inl ⟨by simp, rfl, rfl⟩)))
    · rw [h, List.nil_append]
      by_cases k : FD.length = 0
      · exact .inl ⟨k, rfl⟩
      · exact .inr (.inr (.inr (.inr ⟨by omega, (digs_at fdg 0 (by omega)).1, rfl⟩)))
  have HL : Hid (∀ b : Bool, hb = b → (SN.length : Int) = if b = true then 1 else 0) := by
    intro b e
    rw [← e, HB.out]
    by_cases k : SN.length = 1
    · rw [decide_eq_true k, if_pos rfl, k]; rfl
    · rw [decide_eq_false k, if_neg Bool.false_ne_true]; omega
  -- Unsigned
  have UE : ∀ V' : Int, (V' = 111 ∨ V' = 117 ∨ V' = 120 ∨ V' = 88) → ∀ W1 : Int, Wh.chk F W1 P = 0 → Wh.unsE V' F W1 P = 0 := fun V' h W1 k => by rw [Wh.unsE, if_pos h, k]
  have UA : Hid (∀ V' (hd : Int) (W' : World), (V' = 111 ∨ V' = 117 ∨ V' = 120 ∨ V' = 88) → ((Wh.uhead V' F u).length : Int) = hd → Calls Tryd.prog 15 #[.agg #[.int .u8 V', .int .i64 F, .int .i64 W, .int .i64 P], .int .u64 u] W' fun e w' => e = .returned (.tuple #[.string (strOfNums (Wh.wd F W (Wh.uhead V' F u ++ Wh.utext V' F P u) hd)), .int .i64 0]) ∧ Below W'.heap.size W' w') := by
    intro V' hd W' hV hh
    refine (unsigned_any V' F W P u W' (by omega) (by omega) u0 u1).mono ?_
    rintro e w' ⟨rfl, b⟩
    rw [Wh.uns, UE V' hV W hc, if_pos rfl, Wh.unsT, Wh.padT_wd, dz, if_pos rfl, hh]
    exact ⟨rfl, b⟩
  have UC : Hid (∀ V' (W' : World), (V' = 111 ∨ V' = 117 ∨ V' = 120 ∨ V' = 88) → Calls Tryd.prog 15 #[.agg #[.int .u8 V', .int .i64 F, .int .i64 0, .int .i64 P], .int .u64 u] W' fun e w' => e = .returned (.tuple #[.string (strOfNums (Wh.uhead V' F u ++ Wh.utext V' F P u)), .int .i64 0]) ∧ Below W'.heap.size W' w') := by
    intro V' W' hV
    refine (unsigned_any V' F 0 P u W' (by omega) (by omega) u0 u1).mono ?_
    rintro e w' ⟨rfl, b⟩
    rw [Wh.uns, UE V' hV 0 hc0, if_pos rfl, Wh.unsT, Wh.padT_zero]
    exact ⟨rfl, b⟩
  have WU : Hid (∀ V' (hd : Int) (W' : World), -1 ≤ hd → hd ≤ (Wh.uhead V' F u).length → Calls Tryd.prog 14 #[.agg #[.int .u8 V', .int .i64 F, .int .i64 W, .int .i64 P], .string (strOfNums (Wh.wd F W (Wh.uhead V' F u ++ Wh.utext V' F P u) hd)), .string (strOfNums (Wh.uhead V' F u ++ Wh.utext V' F P u)), .int .i64 hd] W' fun e w' => e = .returned (.bool true) ∧ Below W'.heap.size W' w') := by
    intro V' hd W' h0 h1
    have bd := base_bd V'
    have dl := dig_u (Wh.base V') (decide (V' = 88)) u u0 u1 bd.1 bd.2
    have fy : Wh.By (Wh.ubody V' P u) := Wh.fil_by (Wh.dig_by _ _ _)
    have fl : (Wh.ubody V' P u).length ≤ 268000 := by rw [Wh.ubody, Wh.fil_len]; split <;> omega
    have hh : Wh.By (Wh.uhead V' F u) ∧ (Wh.uhead V' F u).length ≤ 2 := by
      unfold Wh.uhead
      split
      · exact ⟨by intro x hx; simp at hx; omega, by simp⟩
      · split
        · exact ⟨by intro x hx; simp at hx; omega, by simp⟩
        · exact ⟨Wh.By.nil, by simp⟩
    have hbb : Wh.By (Wh.utext V' F P u) ∧ (Wh.utext V' F P u).length ≤ 268001 := by
      unfold Wh.utext
      split
      · exact ⟨fy.cons (by omega), by rw [List.length_cons]; omega⟩
      · exact ⟨fy, by omega⟩
    have ll : (Wh.uhead V' F u ++ Wh.utext V' F P u).length = (Wh.uhead V' F u).length + (Wh.utext V' F P u).length := List.length_append
    exact lwide_any V' F W P _ hd W' q0 q1 wl wu (hh.1.app hbb.1) (by omega) h0 (by omega)
  have UH : Hid (∀ V', (V' = 111 ∨ V' = 117 ∨ Wh.bit F 8 = false ∨ u = 0) → (Wh.uhead V' F u).length = 0) := by
    intro V' h
    have e : Wh.uhead V' F u = [] := by
      rw [Wh.uhead, if_neg, if_neg]
      · rintro ⟨a, b, c⟩
        rcases h with h | h | h | h
        · omega
        · omega
        · rw [h] at a; exact Bool.false_ne_true a
        · exact b h
      · rintro ⟨a, b, c⟩
        rcases h with h | h | h | h
        · omega
        · omega
        · rw [h] at a; exact Bool.false_ne_true a
        · exact b h
    rw [e]; rfl
  have UH2 : Hid (∀ V', (V' = 120 ∨ V' = 88) → Wh.bit F 8 = true → u ≠ 0 → (Wh.uhead V' F u).length = 2) := by
    intro V' h k j
    rw [Wh.uhead]
    rcases h with h | h
    · rw [if_pos ⟨k, j, h⟩]; rfl
    · rw [if_neg (by omega), if_pos ⟨k, j, h⟩]; rfl
  have L8 := hid (fun V' W' => lhas_any V' F W P 8 W' q0 q1 (by omega))
  -- Text, Char
  have yc : Wh.By (Wh.cut P t) ∧ (Wh.cut P t).length ≤ 16777216 := by
    by_cases q : P = -1
    · rw [Wh.cut, if_pos q]; exact ⟨hy, tl⟩
    · rw [Wh.cut, if_neg q]; exact ⟨hy.take _, by rw [List.length_take]; omega⟩
  have TA : Hid (∀ W' : World, Calls Tryd.prog 17 #[.agg #[.int .u8 115, .int .i64 F, .int .i64 W, .int .i64 P], .string (strOfNums t)] W' fun e w' => e = .returned (.tuple #[.string (strOfNums (Wh.wd F W (Wh.cut P t) (-1))), .int .i64 0]) ∧ Below W'.heap.size W' w') := by
    intro W'
    refine (text_any 115 F W P t W' (by omega) (by omega) hy (by omega)).mono ?_
    rintro e w' ⟨rfl, b⟩
    have e0 : Wh.texE 115 F W P t = 0 := by rw [Wh.texE, if_pos rfl, Wh.padE, if_pos hc, if_neg (by simp only [List.length_nil]; omega)]
    rw [Wh.tex, e0, if_pos rfl, Wh.padT_wd, if_neg Bool.false_ne_true, List.nil_append]
    exact ⟨rfl, b⟩
  have TC : Hid (∀ W' : World, Calls Tryd.prog 17 #[.agg #[.int .u8 115, .int .i64 F, .int .i64 0, .int .i64 P], .string (strOfNums t)] W' fun e w' => e = .returned (.tuple #[.string (strOfNums (Wh.cut P t)), .int .i64 0]) ∧ Below W'.heap.size W' w') := by
    intro W'
    refine (text_any 115 F 0 P t W' (by omega) (by omega) hy (by omega)).mono ?_
    rintro e w' ⟨rfl, b⟩
    have e0 : Wh.texE 115 F 0 P t = 0 := by rw [Wh.texE, if_pos rfl, Wh.padE, if_pos hc0, if_neg (by simp only [List.length_nil]; omega)]
    rw [Wh.tex, e0, if_pos rfl, Wh.padT_zero, List.nil_append]
    exact ⟨rfl, b⟩
  have WT := hid (fun W' => lwide_any 115 F W P (Wh.cut P t) (-1) W' q0 q1 wl wu yc.1 (by omega) (by omega) (by omega))
  have ye : (t.take 1).length ≤ 1 := by rw [List.length_take]; omega
  have CA : Hid (∀ W' : World, Calls Tryd.prog 18 #[.agg #[.int .u8 99, .int .i64 F, .int .i64 W, .int .i64 P], .string (strOfNums t)] W' fun e w' => e = .returned (.tuple #[.string (strOfNums (Wh.wd F W (t.take 1) (-1))), .int .i64 0]) ∧ Below W'.heap.size W' w') := by
    intro W'
    refine (char_any 99 F W P t W' (by omega) (by omega) hy (by omega)).mono ?_
    rintro e w' ⟨rfl, b⟩
    have e0 : Wh.chrE 99 F W P = 0 := by rw [Wh.chrE, if_pos rfl, hc]
    rw [Wh.chr, e0, if_pos rfl, Wh.padT_wd, if_neg Bool.false_ne_true, List.nil_append]
    exact ⟨rfl, b⟩
  have CC : Hid (∀ W' : World, Calls Tryd.prog 18 #[.agg #[.int .u8 99, .int .i64 F, .int .i64 0, .int .i64 P], .string (strOfNums t)] W' fun e w' => e = .returned (.tuple #[.string (strOfNums (t.take 1)), .int .i64 0]) ∧ Below W'.heap.size W' w') := by
    intro W'
    refine (char_any 99 F 0 P t W' (by omega) (by omega) hy (by omega)).mono ?_
    rintro e w' ⟨rfl, b⟩
    have e0 : Wh.chrE 99 F 0 P = 0 := by rw [Wh.chrE, if_pos rfl, hc0]
    rw [Wh.chr, e0, if_pos rfl, Wh.padT_zero, List.nil_append]
    exact ⟨rfl, b⟩
  have WC := hid (fun W' => lwide_any 99 F W P (t.take 1) (-1) W' q0 q1 wl wu (hy.take 1) (by omega) (by omega) (by omega))
  have s1 : ((strOfNums (t.take 1)).size : Int) ≤ 1 := by rw [strOfNums_size]; omega
  have lb0 : (SN ++ FD).length ≤ 16777300 := by omega
  clear hc hc0 ht ysn yfd sn1 fdg ybn lsn lbn yc ye UE dz fmx hy HB ha u1 p0 p1 wl wu q0 q1
  have lbi : ((SN ++ FD).length : Int) ≤ 16777300 := by omega
  subst hP
  generalize Nm.tsize zs = tN at *
  generalize strOfNums (Wh.wd F W (SN ++ FD) (SN.length : Int)) = aS at *
  generalize strOfNums (SN ++ FD) = bS at *
  generalize (SN ++ FD).getD 0 0 = x0 at *
  generalize (SN ++ FD).length = L at *
  generalize (SN.length : Int) = hS at *
  generalize strOfNums (Wh.wd F W (Wh.cut (-1) t) (-1)) = cS at *
  generalize strOfNums (Wh.cut (-1) t) = dS at *
  generalize strOfNums (Wh.wd F W (t.take 1) (-1)) = eS at *
  generalize strOfNums (t.take 1) = gS at *
  go_enter Tryd.func5, Tryd.ntmps5
  go_wp2_with fail
  with_reducible refine (FT.out _).mono ?_
  rintro e w1 ⟨rfl, b1⟩
  have S1 := hid (S0.out.below b1)
  have B1 := hid (below_on B0.out b1)
  clear b1 S0 B0 FT
  obtain ⟨⟨c0, c1, c2, c3⟩, -⟩ := S1.out.cells
  go_wp2_with fail
  with_reducible refine (GD.out _).mono ?_
  rintro e w2 ⟨rfl, b2⟩
  have S2 := hid (S1.out.below b2)
  have B2 := hid (below_on B1.out b2)
  clear b2 S1 B1 GD c0 c1 c2 c3
  go_wp2_with fail
  with_reducible refine (TR2.out _ B2.out).mono ?_
  rintro e w3 ⟨r, rfl, b3⟩
  have S3 := hid (S2.out.below b3)
  have B3 := hid (below_on B2.out b3)
  clear b3 S2 B2 TR2
  obtain ⟨⟨c0, c1, c2, c3⟩, ⟨f0, f1, f2, f3⟩⟩ := S3.out.cells
  have lt3 := S3.out.lt
  have ne3 : w3.heap.size ≠ w.heap.size + 1 := by omega
  have ne4 : w.heap.size + 1 ≠ w3.heap.size := by omega
  have sz3 : (w3.setCell ⟨w.heap.size + 1, 0, none⟩ (.int .u8 100)).heap.size = w3.heap.size := by simp [World.setCell]
  have D0 : Hid (WB w (w.heap.size + 1) w3.heap.size 100 F W (-1) ((w3.setCell ⟨w.heap.size + 1, 0, none⟩ (.int .u8 100)).alloc (.cells #[.int .u8 100, .int .i64 F, .int .i64 0, .int .i64 (-1)] 25))) := by
    have A := alloc_b (w3.setCell ⟨w.heap.size + 1, 0, none⟩ (.int .u8 100)) (.cells #[.int .u8 100, .int .i64 F, .int .i64 0, .int .i64 (-1)] 25)
    have N := S4.new (w3.setCell ⟨w.heap.size + 1, 0, none⟩ (.int .u8 100)) (.int .u8 100) (.int .i64 F) (.int .i64 0) (.int .i64 (-1))
    rw [sz3] at N
    have S : S4 (w3.setCell ⟨w.heap.size + 1, 0, none⟩ (.int .u8 100)) (w.heap.size + 1) (.int .u8 100) (.int .i64 F) (.int .i64 W) (.int .i64 (-1)) := set1 S3.out rfl
    exact ⟨below_on (B3.out.setCell (p := ⟨w.heap.size + 1, 0, none⟩) (by show w.heap.size ≤ w.heap.size + 1; omega) _) A, S.below A, N, ne4, by omega, by have := B3.out.size; omega⟩
  go_upto_region 14 with fail
  clear c0 c1 c2 c3 f0 f1 f2 f3 S3 B3 lt3 ne3 ne4 sz3
  generalize ((w3.setCell ⟨w.heap.size + 1, 0, none⟩ (.int .u8 100)).alloc (.cells #[.int .u8 100, .int .i64 F, .int .i64 0, .int .i64 (-1)] 25)) = wD at *
  generalize w3.heap.size = bb at *
  obtain ⟨sb, HSB⟩ : ∃ sb, Hid (sb = w.heap.size + 1) := ⟨_, rfl⟩
  rw [← HSB.out] at D0
  rw [← HSB.out]
  obtain ⟨⟨c0, c1, c2, c3⟩, ⟨d0, d1, d2, d3⟩⟩ := D0.out.flat
  go_wp2_with fail
  with_reducible refine (SA.out _ D0.out.bel).mono ?_
  rintro e w4 ⟨rfl, b4⟩
  have D1 := hid (D0.out.on b4)
  clear b4 D0 SA c0 c1 c2 c3 d0 d1 d2 d3
  obtain ⟨⟨c0, c1, c2, c3⟩, ⟨d0, d1, d2, d3⟩⟩ := D1.out.flat
  go_wp2_with fail
  with_reducible refine (SC.out _ D1.out.bel).mono ?_
  rintro e w5 ⟨rfl, b5⟩
  have D2 := hid (D1.out.on b5)
  clear b5 D1 SC c0 c1 c2 c3 d0 d1 d2 d3
  go_upto_region 17 with fail
  go_cut [76] (fun b wx => b = .bool hb ∧ wx = w5)
  case first =>
    rcases HDC with ⟨h, rfl⟩ | ⟨h, h2, rfl⟩ | ⟨h, h2, rfl⟩ | ⟨h, h2, rfl⟩ | ⟨h, h2, rfl⟩
    · subst h
      go_wp2_with fail
      go_meet
      exact ⟨rfl, rfl⟩
    · subst h2
      have hi : (0 : Int) < (L : Int) := by omega
      go_wp2_with fail
      go_meet
      exact ⟨rfl, rfl⟩
    · subst h2
      have hi : (0 : Int) < (L : Int) := by omega
      go_wp2_with fail
      go_meet
      exact ⟨rfl, rfl⟩
    · subst h2
      have hi : (0 : Int) < (L : Int) := by omega
      go_wp2_with fail
      go_meet
      exact ⟨rfl, rfl⟩
    · have hi : (0 : Int) < (L : Int) := by omega
      have k1 : (x0 == 45) = false := by rw [beq_eq_false_iff_ne]; omega
      have k2 : (x0 == 43) = false := by rw [beq_eq_false_iff_ne]; omega
      have k3 : (x0 == 32) = false := by rw [beq_eq_false_iff_ne]; omega
      go_wp2_with fail
      go_meet
      exact ⟨rfl, rfl⟩
  case rest =>
  obtain ⟨h76, hwc⟩ := hcut
  subst h76
  have hwc := hwc.symm
  subst hwc
  clear HDC ix sbn
  obtain ⟨⟨c0, c1, c2, c3⟩, ⟨d0, d1, d2, d3⟩⟩ := D2.out.flat
  go_upto_if 76 with fail
  go_cut [13] (fun h wx => h = .int .i64 hS ∧ wx = w5)
  case first =>
    cases hbv : hb with
    | true =>
      have e1 : hS = 1 := (HL.out true hbv).trans (if_pos rfl)
      go_wp2_with fail
      go_meet
      exact ⟨by rw [e1], rfl⟩
    | false =>
      have e1 : hS = 0 := (HL.out false hbv).trans (if_neg Bool.false_ne_true)
      go_wp2_with fail
      go_meet
      exact ⟨by rw [e1], rfl⟩
  case rest =>
  obtain ⟨h13, hwc⟩ := hcut
  subst h13
  have hwc := hwc.symm
  subst hwc
  clear HL
  have hpn : ¬ (0 : Int) ≤ -1 := by omega
  go_wp2_with fail
  with_reducible refine (WA.out _).mono ?_
  rintro e w6 ⟨rfl, b6⟩
  have D3 := hid (D2.out.on b6)
  clear b6 D2 WA c0 c1 c2 c3 d0 d1 d2 d3
  go_wp2_with fail
  go_loopg [9, 10, 11, 12, 13, 14] 4 (fun m a e b f h k wr => ∃ (i : Nat) (V' : Int), i + m = 4 ∧ k = .int .i64 (i : Int) ∧ Hid (WB w sb bb V' F W (-1) wr))
  case atStart => exact ⟨0, 100, by omega, rfl, D3.out⟩
  case round =>
    obtain ⟨i, V', hi, rfl, I⟩ := hrel
    clear D3
    obtain ⟨⟨c0, c1, c2, c3⟩, ⟨d0, d1, d2, d3⟩⟩ := I.out.flat
    obtain ⟨f0, f1⟩ := I.out.free
    have ne := I.out.ne
    have ne' := I.out.ne.symm
    rcases (show i = 0 ∨ i = 1 ∨ i = 2 ∨ i = 3 ∨ i = 4 by omega) with rfl | rfl | rfl | rfl | rfl
    · have uh := UH.out 111 (by omega)
      have U1 := hid (fun W' => UA.out 111 0 W' (by omega) (by omega))
      have U2 := hid (fun W' => UC.out 111 W' (by omega))
      have U3 := hid (fun W' => WU.out 111 0 W' (by omega) (by omega))
      have I1 := hid (I.out.put 111)
      clear uh UA UC WU UH UH2 I
      generalize strOfNums (Wh.wd F W (Wh.uhead 111 F u ++ Wh.utext 111 F (-1) u) 0) = us at *
      generalize strOfNums (Wh.uhead 111 F u ++ Wh.utext 111 F (-1) u) = ut at *
      have ki : ∀ h, (((⟨#[111, 117, 120, 88]⟩ : ByteArray)[0]'h).toNat : Int) = 111 := fun _ => rfl
      go_upto_region 28 with fail
      clear c0 c1 c2 c3 d0 d1 d2 d3 f0 f1 ki
      generalize ((wr.setCell ⟨sb, 0, none⟩ (.int .u8 111)).setCell ⟨bb, 0, none⟩ (.int .u8 111)) = wP at *
      obtain ⟨⟨c0, c1, c2, c3⟩, ⟨d0, d1, d2, d3⟩⟩ := I1.out.flat
      go_wp2_with fail
      with_reducible refine (U1.out _).mono ?_
      rintro e w4 ⟨rfl, b4⟩
      have I2 := hid (I1.out.on b4)
      clear b4 I1 U1 c0 c1 c2 c3 d0 d1 d2 d3
      obtain ⟨⟨c0, c1, c2, c3⟩, ⟨d0, d1, d2, d3⟩⟩ := I2.out.flat
      go_wp2_with fail
      with_reducible refine (U2.out _).mono ?_
      rintro e w5 ⟨rfl, b5⟩
      have I3 := hid (I2.out.on b5)
      clear b5 I2 U2 c0 c1 c2 c3 d0 d1 d2 d3
      obtain ⟨⟨c0, c1, c2, c3⟩, ⟨d0, d1, d2, d3⟩⟩ := I3.out.flat
      go_wp2_with fail
      with_reducible refine (U3.out _).mono ?_
      rintro e w7 ⟨rfl, b7⟩
      have I5 := hid (I3.out.on b7)
      clear b7 I3 U3 c0 c1 c2 c3 d0 d1 d2 d3
      go_wp2_with fail
      go_roundg 3
      case measure => omega
      case rel => exact ⟨1, 111, by omega, by go_num, I5.out⟩
    · have uh := UH.out 117 (by omega)
      have U1 := hid (fun W' => UA.out 117 0 W' (by omega) (by omega))
      have U2 := hid (fun W' => UC.out 117 W' (by omega))
      have U3 := hid (fun W' => WU.out 117 0 W' (by omega) (by omega))
      have I1 := hid (I.out.put 117)
      clear uh UA UC WU UH UH2 I
      generalize strOfNums (Wh.wd F W (Wh.uhead 117 F u ++ Wh.utext 117 F (-1) u) 0) = us at *
      generalize strOfNums (Wh.uhead 117 F u ++ Wh.utext 117 F (-1) u) = ut at *
      have ki : ∀ h, (((⟨#[111, 117, 120, 88]⟩ : ByteArray)[1]'h).toNat : Int) = 117 := fun _ => rfl
      go_upto_region 28 with fail
      clear c0 c1 c2 c3 d0 d1 d2 d3 f0 f1 ki
      generalize ((wr.setCell ⟨sb, 0, none⟩ (.int .u8 117)).setCell ⟨bb, 0, none⟩ (.int .u8 117)) = wP at *
      obtain ⟨⟨c0, c1, c2, c3⟩, ⟨d0, d1, d2, d3⟩⟩ := I1.out.flat
      go_wp2_with fail
      with_reducible refine (U1.out _).mono ?_
      rintro e w4 ⟨rfl, b4⟩
      have I2 := hid (I1.out.on b4)
      clear b4 I1 U1 c0 c1 c2 c3 d0 d1 d2 d3
      obtain ⟨⟨c0, c1, c2, c3⟩, ⟨d0, d1, d2, d3⟩⟩ := I2.out.flat
      go_wp2_with fail
      with_reducible refine (U2.out _).mono ?_
      rintro e w5 ⟨rfl, b5⟩
      have I3 := hid (I2.out.on b5)
      clear b5 I2 U2 c0 c1 c2 c3 d0 d1 d2 d3
      obtain ⟨⟨c0, c1, c2, c3⟩, ⟨d0, d1, d2, d3⟩⟩ := I3.out.flat
      go_wp2_with fail
      with_reducible refine (U3.out _).mono ?_
      rintro e w7 ⟨rfl, b7⟩
      have I5 := hid (I3.out.on b7)
      clear b7 I3 U3 c0 c1 c2 c3 d0 d1 d2 d3
      go_wp2_with fail
      go_roundg 2
      case measure => omega
      case rel => exact ⟨2, 117, by omega, by go_num, I5.out⟩
    · cases h8 : Wh.bit F 8 with
      | false =>
        have uh := UH.out 120 (.inr (.inr (.inl h8)))
        have U1 := hid (fun W' => UA.out 120 0 W' (by omega) (by omega))
        have U2 := hid (fun W' => UC.out 120 W' (by omega))
        have U3 := hid (fun W' => WU.out 120 0 W' (by omega) (by omega))
        have I1 := hid (I.out.put 120)
        clear uh UA UC WU UH UH2 I
        generalize strOfNums (Wh.wd F W (Wh.uhead 120 F u ++ Wh.utext 120 F (-1) u) 0) = us at *
        generalize strOfNums (Wh.uhead 120 F u ++ Wh.utext 120 F (-1) u) = ut at *
        have ki : ∀ h, (((⟨#[111, 117, 120, 88]⟩ : ByteArray)[2]'h).toNat : Int) = 120 := fun _ => rfl
        go_upto_region 28 with fail
        clear c0 c1 c2 c3 d0 d1 d2 d3 f0 f1 ki
        generalize ((wr.setCell ⟨sb, 0, none⟩ (.int .u8 120)).setCell ⟨bb, 0, none⟩ (.int .u8 120)) = wP at *
        obtain ⟨⟨c0, c1, c2, c3⟩, ⟨d0, d1, d2, d3⟩⟩ := I1.out.flat
        go_wp2_with fail
        with_reducible refine (U1.out _).mono ?_
        rintro e w4 ⟨rfl, b4⟩
        have I2 := hid (I1.out.on b4)
        clear b4 I1 U1 c0 c1 c2 c3 d0 d1 d2 d3
        obtain ⟨⟨c0, c1, c2, c3⟩, ⟨d0, d1, d2, d3⟩⟩ := I2.out.flat
        go_wp2_with fail
        with_reducible refine (U2.out _).mono ?_
        rintro e w5 ⟨rfl, b5⟩
        have I3 := hid (I2.out.on b5)
        clear b5 I2 U2 c0 c1 c2 c3 d0 d1 d2 d3
        obtain ⟨⟨c0, c1, c2, c3⟩, ⟨d0, d1, d2, d3⟩⟩ := I3.out.flat
        go_wp2_with fail
        with_reducible refine (L8.out _ _).mono ?_
        rintro e w6 ⟨rfl, b6⟩
        have I4 := hid (I3.out.on b6)
        clear b6 I3 c0 c1 c2 c3 d0 d1 d2 d3
        obtain ⟨⟨c0, c1, c2, c3⟩, ⟨d0, d1, d2, d3⟩⟩ := I4.out.flat
        rw [h8]
        go_wp2_with fail
        with_reducible refine (U3.out _).mono ?_
        rintro e w7 ⟨rfl, b7⟩
        have I5 := hid (I4.out.on b7)
        clear b7 I4 U3 c0 c1 c2 c3 d0 d1 d2 d3
        go_wp2_with fail
        go_roundg 1
        case measure => omega
        case rel => exact ⟨3, 120, by omega, by go_num, I5.out⟩
      | true =>
        by_cases hu : u = 0
        · have uh := UH.out 120 (.inr (.inr (.inr hu)))
          have U1 := hid (fun W' => UA.out 120 0 W' (by omega) (by omega))
          have U2 := hid (fun W' => UC.out 120 W' (by omega))
          have U3 := hid (fun W' => WU.out 120 0 W' (by omega) (by omega))
          have I1 := hid (I.out.put 120)
          clear uh UA UC WU UH UH2 I
          generalize strOfNums (Wh.wd F W (Wh.uhead 120 F u ++ Wh.utext 120 F (-1) u) 0) = us at *
          generalize strOfNums (Wh.uhead 120 F u ++ Wh.utext 120 F (-1) u) = ut at *
          have ki : ∀ h, (((⟨#[111, 117, 120, 88]⟩ : ByteArray)[2]'h).toNat : Int) = 120 := fun _ => rfl
          have ub2 : (u != 0) = false := by simpa using hu
          clear hu
          go_upto_region 28 with fail
          clear c0 c1 c2 c3 d0 d1 d2 d3 f0 f1 ki
          generalize ((wr.setCell ⟨sb, 0, none⟩ (.int .u8 120)).setCell ⟨bb, 0, none⟩ (.int .u8 120)) = wP at *
          obtain ⟨⟨c0, c1, c2, c3⟩, ⟨d0, d1, d2, d3⟩⟩ := I1.out.flat
          go_wp2_with fail
          with_reducible refine (U1.out _).mono ?_
          rintro e w4 ⟨rfl, b4⟩
          have I2 := hid (I1.out.on b4)
          clear b4 I1 U1 c0 c1 c2 c3 d0 d1 d2 d3
          obtain ⟨⟨c0, c1, c2, c3⟩, ⟨d0, d1, d2, d3⟩⟩ := I2.out.flat
          go_wp2_with fail
          with_reducible refine (U2.out _).mono ?_
          rintro e w5 ⟨rfl, b5⟩
          have I3 := hid (I2.out.on b5)
          clear b5 I2 U2 c0 c1 c2 c3 d0 d1 d2 d3
          obtain ⟨⟨c0, c1, c2, c3⟩, ⟨d0, d1, d2, d3⟩⟩ := I3.out.flat
          go_wp2_with fail
          with_reducible refine (L8.out _ _).mono ?_
          rintro e w6 ⟨rfl, b6⟩
          have I4 := hid (I3.out.on b6)
          clear b6 I3 c0 c1 c2 c3 d0 d1 d2 d3
          obtain ⟨⟨c0, c1, c2, c3⟩, ⟨d0, d1, d2, d3⟩⟩ := I4.out.flat
          rw [h8]
          go_wp2_with fail
          with_reducible refine (U3.out _).mono ?_
          rintro e w7 ⟨rfl, b7⟩
          have I5 := hid (I4.out.on b7)
          clear b7 I4 U3 c0 c1 c2 c3 d0 d1 d2 d3
          go_wp2_with fail
          go_roundg 1
          case measure => omega
          case rel => exact ⟨3, 120, by omega, by go_num, I5.out⟩
        · have uh := UH2.out 120 (by omega) h8 hu
          have U1 := hid (fun W' => UA.out 120 2 W' (by omega) (by omega))
          have U2 := hid (fun W' => UC.out 120 W' (by omega))
          have U3 := hid (fun W' => WU.out 120 2 W' (by omega) (by omega))
          have I1 := hid (I.out.put 120)
          clear uh UA UC WU UH UH2 I
          generalize strOfNums (Wh.wd F W (Wh.uhead 120 F u ++ Wh.utext 120 F (-1) u) 2) = us at *
          generalize strOfNums (Wh.uhead 120 F u ++ Wh.utext 120 F (-1) u) = ut at *
          have ki : ∀ h, (((⟨#[111, 117, 120, 88]⟩ : ByteArray)[2]'h).toNat : Int) = 120 := fun _ => rfl
          have ub : (u == 0) = false := by simpa using hu
          have ub2 : (u != 0) = true := by simpa using hu
          go_upto_region 28 with fail
          clear c0 c1 c2 c3 d0 d1 d2 d3 f0 f1 ki
          generalize ((wr.setCell ⟨sb, 0, none⟩ (.int .u8 120)).setCell ⟨bb, 0, none⟩ (.int .u8 120)) = wP at *
          obtain ⟨⟨c0, c1, c2, c3⟩, ⟨d0, d1, d2, d3⟩⟩ := I1.out.flat
          go_wp2_with fail
          with_reducible refine (U1.out _).mono ?_
          rintro e w4 ⟨rfl, b4⟩
          have I2 := hid (I1.out.on b4)
          clear b4 I1 U1 c0 c1 c2 c3 d0 d1 d2 d3
          obtain ⟨⟨c0, c1, c2, c3⟩, ⟨d0, d1, d2, d3⟩⟩ := I2.out.flat
          go_wp2_with fail
          with_reducible refine (U2.out _).mono ?_
          rintro e w5 ⟨rfl, b5⟩
          have I3 := hid (I2.out.on b5)
          clear b5 I2 U2 c0 c1 c2 c3 d0 d1 d2 d3
          obtain ⟨⟨c0, c1, c2, c3⟩, ⟨d0, d1, d2, d3⟩⟩ := I3.out.flat
          go_wp2_with fail
          with_reducible refine (L8.out _ _).mono ?_
          rintro e w6 ⟨rfl, b6⟩
          have I4 := hid (I3.out.on b6)
          clear b6 I3 c0 c1 c2 c3 d0 d1 d2 d3
          obtain ⟨⟨c0, c1, c2, c3⟩, ⟨d0, d1, d2, d3⟩⟩ := I4.out.flat
          rw [h8]
          go_wp2_with fail
          with_reducible refine (U3.out _).mono ?_
          rintro e w7 ⟨rfl, b7⟩
          have I5 := hid (I4.out.on b7)
          clear b7 I4 U3 c0 c1 c2 c3 d0 d1 d2 d3
          go_wp2_with fail
          go_roundg 1
          case measure => omega
          case rel => exact ⟨3, 120, by omega, by go_num, I5.out⟩
    · cases h8 : Wh.bit F 8 with
      | false =>
        have uh := UH.out 88 (.inr (.inr (.inl h8)))
        have U1 := hid (fun W' => UA.out 88 0 W' (by omega) (by omega))
        have U2 := hid (fun W' => UC.out 88 W' (by omega))
        have U3 := hid (fun W' => WU.out 88 0 W' (by omega) (by omega))
        have I1 := hid (I.out.put 88)
        clear uh UA UC WU UH UH2 I
        generalize strOfNums (Wh.wd F W (Wh.uhead 88 F u ++ Wh.utext 88 F (-1) u) 0) = us at *
        generalize strOfNums (Wh.uhead 88 F u ++ Wh.utext 88 F (-1) u) = ut at *
        have ki : ∀ h, (((⟨#[111, 117, 120, 88]⟩ : ByteArray)[3]'h).toNat : Int) = 88 := fun _ => rfl
        go_upto_region 28 with fail
        clear c0 c1 c2 c3 d0 d1 d2 d3 f0 f1 ki
        generalize ((wr.setCell ⟨sb, 0, none⟩ (.int .u8 88)).setCell ⟨bb, 0, none⟩ (.int .u8 88)) = wP at *
        obtain ⟨⟨c0, c1, c2, c3⟩, ⟨d0, d1, d2, d3⟩⟩ := I1.out.flat
        go_wp2_with fail
        with_reducible refine (U1.out _).mono ?_
        rintro e w4 ⟨rfl, b4⟩
        have I2 := hid (I1.out.on b4)
        clear b4 I1 U1 c0 c1 c2 c3 d0 d1 d2 d3
        obtain ⟨⟨c0, c1, c2, c3⟩, ⟨d0, d1, d2, d3⟩⟩ := I2.out.flat
        go_wp2_with fail
        with_reducible refine (U2.out _).mono ?_
        rintro e w5 ⟨rfl, b5⟩
        have I3 := hid (I2.out.on b5)
        clear b5 I2 U2 c0 c1 c2 c3 d0 d1 d2 d3
        obtain ⟨⟨c0, c1, c2, c3⟩, ⟨d0, d1, d2, d3⟩⟩ := I3.out.flat
        go_wp2_with fail
        with_reducible refine (L8.out _ _).mono ?_
        rintro e w6 ⟨rfl, b6⟩
        have I4 := hid (I3.out.on b6)
        clear b6 I3 c0 c1 c2 c3 d0 d1 d2 d3
        obtain ⟨⟨c0, c1, c2, c3⟩, ⟨d0, d1, d2, d3⟩⟩ := I4.out.flat
        rw [h8]
        go_wp2_with fail
        with_reducible refine (U3.out _).mono ?_
        rintro e w7 ⟨rfl, b7⟩
        have I5 := hid (I4.out.on b7)
        clear b7 I4 U3 c0 c1 c2 c3 d0 d1 d2 d3
        go_wp2_with fail
        go_roundg 0
        case measure => omega
        case rel => exact ⟨4, 88, by omega, by go_num, I5.out⟩
      | true =>
        by_cases hu : u = 0
        · have uh := UH.out 88 (.inr (.inr (.inr hu)))
          have U1 := hid (fun W' => UA.out 88 0 W' (by omega) (by omega))
          have U2 := hid (fun W' => UC.out 88 W' (by omega))
          have U3 := hid (fun W' => WU.out 88 0 W' (by omega) (by omega))
          have I1 := hid (I.out.put 88)
          clear uh UA UC WU UH UH2 I
          generalize strOfNums (Wh.wd F W (Wh.uhead 88 F u ++ Wh.utext 88 F (-1) u) 0) = us at *
          generalize strOfNums (Wh.uhead 88 F u ++ Wh.utext 88 F (-1) u) = ut at *
          have ki : ∀ h, (((⟨#[111, 117, 120, 88]⟩ : ByteArray)[3]'h).toNat : Int) = 88 := fun _ => rfl
          have ub2 : (u != 0) = false := by simpa using hu
          clear hu
          go_upto_region 28 with fail
          clear c0 c1 c2 c3 d0 d1 d2 d3 f0 f1 ki
          generalize ((wr.setCell ⟨sb, 0, none⟩ (.int .u8 88)).setCell ⟨bb, 0, none⟩ (.int .u8 88)) = wP at *
          obtain ⟨⟨c0, c1, c2, c3⟩, ⟨d0, d1, d2, d3⟩⟩ := I1.out.flat
          go_wp2_with fail
          with_reducible refine (U1.out _).mono ?_
          rintro e w4 ⟨rfl, b4⟩
          have I2 := hid (I1.out.on b4)
          clear b4 I1 U1 c0 c1 c2 c3 d0 d1 d2 d3
          obtain ⟨⟨c0, c1, c2, c3⟩, ⟨d0, d1, d2, d3⟩⟩ := I2.out.flat
          go_wp2_with fail
          with_reducible refine (U2.out _).mono ?_
          rintro e w5 ⟨rfl, b5⟩
          have I3 := hid (I2.out.on b5)
          clear b5 I2 U2 c0 c1 c2 c3 d0 d1 d2 d3
          obtain ⟨⟨c0, c1, c2, c3⟩, ⟨d0, d1, d2, d3⟩⟩ := I3.out.flat
          go_wp2_with fail
          with_reducible refine (L8.out _ _).mono ?_
          rintro e w6 ⟨rfl, b6⟩
          have I4 := hid (I3.out.on b6)
          clear b6 I3 c0 c1 c2 c3 d0 d1 d2 d3
          obtain ⟨⟨c0, c1, c2, c3⟩, ⟨d0, d1, d2, d3⟩⟩ := I4.out.flat
          rw [h8]
          go_wp2_with fail
          with_reducible refine (U3.out _).mono ?_
          rintro e w7 ⟨rfl, b7⟩
          have I5 := hid (I4.out.on b7)
          clear b7 I4 U3 c0 c1 c2 c3 d0 d1 d2 d3
          go_wp2_with fail
          go_roundg 0
          case measure => omega
          case rel => exact ⟨4, 88, by omega, by go_num, I5.out⟩
        · have uh := UH2.out 88 (by omega) h8 hu
          have U1 := hid (fun W' => UA.out 88 2 W' (by omega) (by omega))
          have U2 := hid (fun W' => UC.out 88 W' (by omega))
          have U3 := hid (fun W' => WU.out 88 2 W' (by omega) (by omega))
          have I1 := hid (I.out.put 88)
          clear uh UA UC WU UH UH2 I
          generalize strOfNums (Wh.wd F W (Wh.uhead 88 F u ++ Wh.utext 88 F (-1) u) 2) = us at *
          generalize strOfNums (Wh.uhead 88 F u ++ Wh.utext 88 F (-1) u) = ut at *
          have ki : ∀ h, (((⟨#[111, 117, 120, 88]⟩ : ByteArray)[3]'h).toNat : Int) = 88 := fun _ => rfl
          have ub : (u == 0) = false := by simpa using hu
          have ub2 : (u != 0) = true := by simpa using hu
          go_upto_region 28 with fail
          clear c0 c1 c2 c3 d0 d1 d2 d3 f0 f1 ki
          generalize ((wr.setCell ⟨sb, 0, none⟩ (.int .u8 88)).setCell ⟨bb, 0, none⟩ (.int .u8 88)) = wP at *
          obtain ⟨⟨c0, c1, c2, c3⟩, ⟨d0, d1, d2, d3⟩⟩ := I1.out.flat
          go_wp2_with fail
          with_reducible refine (U1.out _).mono ?_
          rintro e w4 ⟨rfl, b4⟩
          have I2 := hid (I1.out.on b4)
          clear b4 I1 U1 c0 c1 c2 c3 d0 d1 d2 d3
          obtain ⟨⟨c0, c1, c2, c3⟩, ⟨d0, d1, d2, d3⟩⟩ := I2.out.flat
          go_wp2_with fail
          with_reducible refine (U2.out _).mono ?_
          rintro e w5 ⟨rfl, b5⟩
          have I3 := hid (I2.out.on b5)
          clear b5 I2 U2 c0 c1 c2 c3 d0 d1 d2 d3
          obtain ⟨⟨c0, c1, c2, c3⟩, ⟨d0, d1, d2, d3⟩⟩ := I3.out.flat
          go_wp2_with fail
          with_reducible refine (L8.out _ _).mono ?_
          rintro e w6 ⟨rfl, b6⟩
          have I4 := hid (I3.out.on b6)
          clear b6 I3 c0 c1 c2 c3 d0 d1 d2 d3
          obtain ⟨⟨c0, c1, c2, c3⟩, ⟨d0, d1, d2, d3⟩⟩ := I4.out.flat
          rw [h8]
          go_wp2_with fail
          with_reducible refine (U3.out _).mono ?_
          rintro e w7 ⟨rfl, b7⟩
          have I5 := hid (I4.out.on b7)
          clear b7 I4 U3 c0 c1 c2 c3 d0 d1 d2 d3
          go_wp2_with fail
          go_roundg 0
          case measure => omega
          case rel => exact ⟨4, 88, by omega, by go_num, I5.out⟩
    · clear UA UC WU UH UH2 L8
      have J1 := hid (I.out.put 115)
      clear I
      go_upto_region 39 with fail
      clear c0 c1 c2 c3 d0 d1 d2 d3 f0 f1
      generalize ((wr.setCell ⟨sb, 0, none⟩ (.int .u8 115)).setCell ⟨bb, 0, none⟩ (.int .u8 115)) = wP at *
      obtain ⟨⟨c0, c1, c2, c3⟩, ⟨d0, d1, d2, d3⟩⟩ := J1.out.flat
      go_wp2_with fail
      with_reducible refine (TA.out _).mono ?_
      rintro e w4 ⟨rfl, b4⟩
      have J2 := hid (J1.out.on b4)
      clear b4 J1 TA c0 c1 c2 c3 d0 d1 d2 d3
      obtain ⟨⟨c0, c1, c2, c3⟩, ⟨d0, d1, d2, d3⟩⟩ := J2.out.flat
      go_wp2_with fail
      with_reducible refine (TC.out _).mono ?_
      rintro e w5 ⟨rfl, b5⟩
      have J3 := hid (J2.out.on b5)
      clear b5 J2 TC c0 c1 c2 c3 d0 d1 d2 d3
      obtain ⟨⟨c0, c1, c2, c3⟩, ⟨d0, d1, d2, d3⟩⟩ := J3.out.flat
      go_wp2_with fail
      with_reducible refine (WT.out _).mono ?_
      rintro e w6 ⟨rfl, b6⟩
      have J4 := hid (J3.out.on b6)
      clear b6 J3 WT c0 c1 c2 c3 d0 d1 d2 d3
      obtain ⟨⟨c0, c1, c2, c3⟩, ⟨d0, d1, d2, d3⟩⟩ := J4.out.flat
      obtain ⟨f0, f1⟩ := J4.out.free
      have J5 := hid (J4.out.put 99)
      clear J4
      go_upto_region 45 with fail
      clear c0 c1 c2 c3 d0 d1 d2 d3 f0 f1
      generalize ((w6.setCell ⟨sb, 0, none⟩ (.int .u8 99)).setCell ⟨bb, 0, none⟩ (.int .u8 99)) = wQ at *
      obtain ⟨⟨c0, c1, c2, c3⟩, ⟨d0, d1, d2, d3⟩⟩ := J5.out.flat
      go_wp2_with fail
      with_reducible refine (CA.out _).mono ?_
      rintro e w7 ⟨rfl, b7⟩
      have J6 := hid (J5.out.on b7)
      clear b7 J5 CA c0 c1 c2 c3 d0 d1 d2 d3
      obtain ⟨⟨c0, c1, c2, c3⟩, ⟨d0, d1, d2, d3⟩⟩ := J6.out.flat
      go_wp2_with fail
      with_reducible refine (CC.out _).mono ?_
      rintro e w8 ⟨rfl, b8⟩
      have J7 := hid (J6.out.on b8)
      clear b8 J6 CC c0 c1 c2 c3 d0 d1 d2 d3
      obtain ⟨⟨c0, c1, c2, c3⟩, ⟨d0, d1, d2, d3⟩⟩ := J7.out.flat
      go_wp2_with fail
      with_reducible refine (WC.out _).mono ?_
      rintro e w9 ⟨rfl, b9⟩
      have J8 := hid (J7.out.on b9)
      clear b9 J7 WC c0 c1 c2 c3 d0 d1 d2 d3
      go_wp2_with fail
      go_ret
      exact ⟨rfl, J8.out.bel⟩
end Go.Proofs.YtbldddagddmbgaaDoor
