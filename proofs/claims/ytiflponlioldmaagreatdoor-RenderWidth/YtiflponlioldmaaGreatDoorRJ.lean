/-
  Texts put together: JText, JUns, RnOne, RnOne2, RnArg, RnOne3, RnW, RnWr, RnNext, RnCut, RnChk.
-/
import Derived.Test.YtiflponlioldmaaGreatDoorRI
import Derived.Test.YtiflponlioldmaaGreatDoorFromW
import Derived.Test.YtiflponlioldmaaGreatDoorRD
import Derived.Test.YtiflponlioldmaaGreatDoorRE
import Derived.Test.YtiflponlioldmaaGreatDoorRC
import Derived.Test.YtiflponlioldmaaGreatDoorRA
import Derived.Defers
import Derived.Recover
import Derived.WalkLawsBesides
import Derived.Laws.Pointers
import Derived.Test.YtiflponlioldmaaGreatDoorRB
import Derived.Test.YtiflponlioldmaaGreatDoorRG
namespace Go.Proofs.YtiflponlioldmaaGreatDoor
open Go Go.RowKit Go.Deep Go.Shelf

theorem ext_take {xs : List Int} (hx : Wh.By xs) (k : Nat) : (strOfNums xs).extract 0 k = strOfNums (xs.take k) := by
  have q := (Str.of_nums hx).extract 0 k
  rw [List.drop_zero, Nat.sub_zero] at q
  exact str_is q

set_option maxRecDepth 100000 in
theorem first_any (xs : List Int) (n : Nat) (w : World) (hx : Wh.By xs) (hl : xs.length ≤ 140737488355328) (hn : n ≤ 4096) :
    Calls Tryz.prog 96 #[.string (strOfNums xs), .int .i64 (n : Int)] w fun e w' => e = .returned (.string (strOfNums (xs.take n))) ∧ Below w.heap.size w w' := by
  have B := hid (Below.refl w.heap.size w)
  have sx : (strOfNums xs).size = xs.length := strOfNums_size xs
  have l2 : (xs.length : Int) ≤ 140737488355328 := by omega
  have n2 : (n : Int) ≤ 4096 := by omega
  by_cases h : n ≤ xs.length
  · have mn : min (n : Int) (xs.length : Int) = (n : Int) := by omega
    have G := hid (ext_take hx n)
    clear hx
    go_enter Tryz.func96, Tryz.ntmps96
    go_wp2_with fail
    go_ret
    exact ⟨ret_str G.out, B.out⟩
  · have mn : min (n : Int) (xs.length : Int) = (xs.length : Int) := by omega
    have G : Hid ((strOfNums xs).extract 0 xs.length = strOfNums (xs.take n)) := by
      rw [Hid, ext_take hx, List.take_of_length_le (Nat.le_refl _), List.take_of_length_le (by omega)]
    clear hx
    go_enter Tryz.func96, Tryz.ntmps96
    go_wp2_with fail
    go_ret
    exact ⟨ret_str G.out, B.out⟩

def ChrTold (V F W P : Int) (t : List Int) (w : World) (e : Ending) (w' : World) : Prop := e = .returned (.tuple #[.string (strOfNums (Wh.chr V F W P t)), .int .i64 (Wh.chrE V F W P)]) ∧ Below w.heap.size w w'
def TexTold (V F W P : Int) (t : List Int) (w : World) (e : Ending) (w' : World) : Prop := e = .returned (.tuple #[.string (strOfNums (Wh.tex V F W P t)), .int .i64 (Wh.texE V F W P t)]) ∧ Below w.heap.size w w'

set_option maxRecDepth 100000 in
set_option maxHeartbeats 2000000 in
theorem char_any (V F W P : Int) (t : List Int) (w : World) (h0 : 0 ≤ V) (h1 : V < 256) (ht : Wh.By t) (hl : t.length ≤ 140737488355328) :
    Calls Tryz.prog 52 #[.agg #[.int .u8 V, .int .i64 F, .int .i64 W, .int .i64 P], .string (strOfNums t)] w fun e w' => ChrTold V F W P t w e w' := by
  have B0 := hid (SB.new w V F W P)
  have CV := hid (fun W' => checkVerb_any V F W P ⟨#[99]⟩ _ W' (vb_c V h0 h1))
  have e0 : (if decide (V = 99) = true then Wh.chk F W P else 140) = Wh.chrE V F W P := by
    rw [Wh.chrE]; by_cases h : V = 99
    · rw [if_pos (decide_eq_true h), if_pos h]
    · rw [if_neg (by simpa using h), if_neg h]
  rw [e0] at CV
  clear e0
  by_cases hE : Wh.chrE V F W P = 0
  · have hV : V = 99 := by
      by_cases h : V = 99
      · exact h
      · rw [Wh.chrE, if_neg h] at hE; omega
    have hc : Wh.chk F W P = 0 := by rw [Wh.chrE, if_pos hV] at hE; exact hE
    have FI : Hid (∀ W', Calls Tryz.prog 96 #[.string (strOfNums t), .int .i64 1] W' fun e w' => e = .returned (.string (strOfNums (t.take 1))) ∧ Below W'.heap.size W' w') := fun W' => first_any t 1 W' ht hl (by omega)
    have PA : Hid (∀ W', Calls Tryz.prog 94 #[.agg #[.int .u8 V, .int .i64 F, .int .i64 W, .int .i64 P], .string ⟨#[]⟩, .string (strOfNums (t.take 1)), .bool false] W' fun e w' => PadTold F W P false [] (t.take 1) W' e w') := (fun W' => pad_any V F W P [] (t.take 1) false W' Wh.By.nil (ht.take 1) (by simp) (by rw [List.length_take]; omega))
    have pe : Wh.padE F W P [] (t.take 1) = 0 := by rw [Wh.padE, if_pos hc, if_neg (by rw [List.length_take]; simp; omega)]
    have G : Hid (∀ W' e w', PadTold F W P false [] (t.take 1) W' e w' → Below w.heap.size w W' → ∃ s, e = .returned (.tuple #[.string s, .int .i64 0]) ∧ ChrTold V F W P t w (.returned (.tuple #[.string s, .int .i64 0])) w') := by
      rintro W' e w' ⟨rfl, k⟩ b
      rw [pe]
      exact ⟨_, rfl, by rw [Wh.chr, if_pos hE, hE, Wh.pad, if_pos pe], below_on b k⟩
    rw [hE] at CV
    clear hE hV hc pe ht hl h0 h1
    go_enter Tryz.func52, Tryz.ntmps52
    go_wp2_with fail
    refine (CV.out _).mono ?_
    rintro e w1 ⟨rfl, b1⟩
    have B1 := hid (B0.out.on b1)
    clear b1 CV B0
    go_upto_region 4 with fail
    have T1 := hid B1.out.drew
    go_region_held3 (fun wx => wx.cell? ⟨w.heap.size, 0, none⟩ = some (.int .u8 V) ∧ wx.cell? ⟨w.heap.size, 1, none⟩ = some (.int .i64 F) ∧ wx.cell? ⟨w.heap.size, 2, none⟩ = some (.int .i64 W) ∧ wx.cell? ⟨w.heap.size, 3, none⟩ = some (.int .i64 P)) (first | (with_reducible exact T3.out.flat) | (with_reducible exact T2.out.flat) | (with_reducible exact T1.out.flat)) (first
      | (go_at_call 96; with_reducible refine (FI.out _).mono ?_; rintro e wa ⟨rfl, hB⟩; have T2 := hid (T1.out.on hB); clear hB)
      | (go_at_call 94; with_reducible refine (PA.out _).mono ?_; rintro e wb hP; have T3 := hid (T2.out.on hP.bel); obtain ⟨s, rfl, R⟩ := G.out _ _ _ hP T2.out.bel; have R := hid R; clear hP))
    go_wp2_with fail
    go_ret2
    exact R.out
  · have G : Hid (∀ w', Below w.heap.size w w' → ChrTold V F W P t w (.returned (.tuple #[.string ⟨#[]⟩, .int .i64 (Wh.chrE V F W P)])) w') := fun w' k => ⟨by rw [Wh.chr, if_neg hE]; rfl, k⟩
    have hne : (Wh.chrE V F W P == 0) = false := by simpa using hE
    clear hE ht hl
    generalize Wh.chrE V F W P = E at *
    go_enter Tryz.func52, Tryz.ntmps52
    go_wp2_with fail
    refine (CV.out _).mono ?_
    rintro e w1 ⟨rfl, b1⟩
    have R := hid (G.out _ (B0.out.on b1).bel)
    clear b1 CV
    go_wp2_with fail
    go_ret2
    exact R.out

set_option maxRecDepth 100000 in
set_option maxHeartbeats 2000000 in
theorem text_any (V F W P : Int) (t : List Int) (w : World) (h0 : 0 ≤ V) (h1 : V < 256) (ht : Wh.By t) (hl : t.length ≤ 140737488355328) :
    Calls Tryz.prog 51 #[.agg #[.int .u8 V, .int .i64 F, .int .i64 W, .int .i64 P], .string (strOfNums t)] w fun e w' => TexTold V F W P t w e w' := by
  have B0 := hid (SB.new w V F W P)
  have CV := hid (fun W' => checkVerb_any V F W P ⟨#[115]⟩ _ W' (vb_s V h0 h1))
  by_cases hV : V = 115
  · rw [if_pos (decide_eq_true hV)] at CV
    have eE : Wh.texE V F W P t = Wh.padE F W P [] (Wh.cut P t) := by rw [Wh.texE, if_pos hV]
    by_cases hc : Wh.chk F W P = 0
    · obtain ⟨-, -, ⟨p0, p1⟩⟩ := Wh.chk_ok hc
      have G : Hid (∀ W' e w', PadTold F W P false [] (Wh.cut P t) W' e w' → Below w.heap.size w W' → ∃ s E, e = .returned (.tuple #[.string s, .int .i64 E]) ∧ TexTold V F W P t w (.returned (.tuple #[.string s, .int .i64 E])) w') := by
        rintro W' e w' ⟨rfl, k⟩ b
        exact ⟨_, _, rfl, by rw [Wh.tex, eE, Wh.pad], below_on b k⟩
      rw [hc] at CV
      by_cases hP : P = -1
      · have ec : Wh.cut P t = t := if_pos hP
        have PA : Hid (∀ W', Calls Tryz.prog 94 #[.agg #[.int .u8 V, .int .i64 F, .int .i64 W, .int .i64 P], .string ⟨#[]⟩, .string (strOfNums t), .bool false] W' fun e w' => PadTold F W P false [] t W' e w') := (fun W' => pad_any V F W P [] t false W' Wh.By.nil ht (by simp) hl)
        rw [ec] at G
        clear eE hc ec ht hl h0 h1 hV
        subst hP
        go_enter Tryz.func51, Tryz.ntmps51
        go_wp2_with fail
        refine (CV.out _).mono ?_
        rintro e w1 ⟨rfl, b1⟩
        have B1 := hid (B0.out.on b1)
        clear b1 CV B0
        obtain ⟨c0, c1, c2, c3⟩ := B1.out.flat
        go_wp2_with fail
        refine (PA.out _).mono ?_
        rintro e wb hP
        obtain ⟨s, E, rfl, R⟩ := G.out _ _ _ hP B1.out.bel
        have R := hid R
        clear hP
        go_wp2_with fail
        go_ret2
        exact R.out
      · obtain ⟨n, rfl⟩ := Int.eq_ofNat_of_zero_le (show 0 ≤ P by omega)
        have ec : Wh.cut (n : Int) t = t.take n := by rw [Wh.cut, if_neg hP]; rfl
        have FI := hid (fun W' => first_any t n W' ht hl (by omega))
        have PA : Hid (∀ W', Calls Tryz.prog 94 #[.agg #[.int .u8 V, .int .i64 F, .int .i64 W, .int .i64 (n : Int)], .string ⟨#[]⟩, .string (strOfNums (t.take n)), .bool false] W' fun e w' => PadTold F W (n : Int) false [] (t.take n) W' e w') := (fun W' => pad_any V F W (n : Int) [] (t.take n) false W' Wh.By.nil (ht.take n) (by simp) (by rw [List.length_take]; omega))
        rw [ec] at G
        have hne : ((n : Int) == -1) = false := by simp
        clear eE hc ec ht hl h0 h1 hV hP
        go_enter Tryz.func51, Tryz.ntmps51
        go_wp2_with fail
        refine (CV.out _).mono ?_
        rintro e w1 ⟨rfl, b1⟩
        have B1 := hid (B0.out.on b1)
        clear b1 CV B0
        obtain ⟨c0, c1, c2, c3⟩ := B1.out.flat
        go_wp2_with fail
        refine (FI.out _).mono ?_
        rintro e w2 ⟨rfl, b2⟩
        have B2 := hid (B1.out.on b2)
        clear b2 B1 c0 c1 c2 c3
        obtain ⟨c0, c1, c2, c3⟩ := B2.out.flat
        go_wp2_with fail
        refine (PA.out _).mono ?_
        rintro e wb hP
        obtain ⟨s, E, rfl, R⟩ := G.out _ _ _ hP B2.out.bel
        have R := hid R
        clear hP
        go_wp2_with fail
        go_ret2
        exact R.out
    · have eE2 : Wh.texE V F W P t = Wh.chk F W P := by rw [eE, Wh.padE, if_neg hc]
      have G : Hid (∀ w', Below w.heap.size w w' → TexTold V F W P t w (.returned (.tuple #[.string ⟨#[]⟩, .int .i64 (Wh.chk F W P)])) w') := fun w' k => ⟨by rw [Wh.tex, eE2, if_neg hc]; rfl, k⟩
      have hne : (Wh.chk F W P == 0) = false := by simpa using hc
      clear hc eE eE2 ht hl hV
      generalize Wh.chk F W P = E at *
      go_enter Tryz.func51, Tryz.ntmps51
      go_wp2_with fail
      refine (CV.out _).mono ?_
      rintro e w1 ⟨rfl, b1⟩
      have R := hid (G.out _ (B0.out.on b1).bel)
      clear b1 CV
      go_wp2_with fail
      go_ret2
      exact R.out
  · rw [if_neg (by simpa using hV)] at CV
    have eE : Wh.texE V F W P t = 140 := by rw [Wh.texE, if_neg hV]
    have G : Hid (∀ w', Below w.heap.size w w' → TexTold V F W P t w (.returned (.tuple #[.string ⟨#[]⟩, .int .i64 140])) w') := fun w' k => ⟨by rw [Wh.tex, eE, if_neg (by decide)]; rfl, k⟩
    clear ht hl hV eE
    go_enter Tryz.func51, Tryz.ntmps51
    go_wp2_with fail
    refine (CV.out _).mono ?_
    rintro e w1 ⟨rfl, b1⟩
    have R := hid (G.out _ (B0.out.on b1).bel)
    clear b1 CV
    go_wp2_with fail
    go_ret2
    exact R.out
end Go.Proofs.YtiflponlioldmaaGreatDoor

namespace Go.Proofs.YtiflponlioldmaaGreatDoor
open Go Go.RowKit Go.Deep Go.Shelf

theorem val_one (u : Int) : Nm.val [u] = u := by simp [Nm.val]
theorem dig_u (B : Int) (up : Bool) (u : Int) (h0 : 0 ≤ u) (h1 : u < 18446744073709551616) (hB : 2 ≤ B) (h36 : B ≤ 36) : (Wh.dig B up u).length ≤ 262144 := by
  have q := (dig_nil B up [u] (limb_one ⟨h0, h1⟩) (Nat.le_trans (Nm.tsize_le _) (by simp)) hB h36).2
  rw [val_one] at q
  exact q
theorem base_bd (V : Int) : 2 ≤ Wh.base V ∧ Wh.base V ≤ 36 := by
  unfold Wh.base
  split
  · omega
  · split <;> omega

/-- The digits of a uint64, in a base. -/
theorem digits_u (r : Option Addr) (os : List Int) (u B : Int) (up : Bool) (b : Nat) (w : World) (h1 : u < 18446744073709551616) (ha : Ans b w r os u) (hB : 2 ≤ B) (h36 : B ≤ 36) :
    Calls Tryz.prog 151 #[.slice r (List.length os) (List.length os), .int .i64 B, .bool up] w fun e w' => e = .returned (.tuple #[.string (strOfNums (Wh.dig B up u)), .int .i64 0]) ∧ Below w.heap.size w w' := by
  have hz : Nm.Limbs os := ha.2.1
  have hv : Nm.val os = u := ha.2.2.2.1
  have ts : Nm.tsize os ≤ 1 := (Nm.tsize_le_iff hz 1).2 (by rw [hv]; exact h1)
  have tl := ha.2.2.1
  have q := digitsOf_any r os.length os.length os B up w (ha.arg (by omega)) hB h36
  rw [if_neg (by omega), if_neg (by omega), hv] at q
  exact q

set_option maxRecDepth 100000 in
theorem unsignedDigits_any (V u : Int) (w : World) (h0 : 0 ≤ u) (h1 : u < 18446744073709551616) :
    Calls Tryz.prog 154 #[.int .u8 V, .int .u64 u] w fun e w' => e = .returned (.tuple #[.string (strOfNums (Wh.dig (Wh.base V) (decide (V = 88)) u)), .int .i64 0]) ∧ Below w.heap.size w w' := by
  have FU := hid (fromUint_any u w h0 h1)
  have DU := hid (fun r os B up W' ha hB h36 => digits_u r os u B up w.heap.size W' h1 ha hB h36)
  clear h0 h1
  by_cases v1 : V = 88
  · subst v1
    rw [show Wh.base 88 = 16 from rfl, show decide ((88 : Int) = 88) = true from rfl]
    go_enter Tryz.func154, Tryz.ntmps154
    go_wp2_with fail
    with_reducible refine FU.out.mono ?_
    rintro e w1 ⟨r, os, rfl, A1, b1⟩
    have D1 := hid (DU.out r os 16 true w1 A1 (by omega) (by omega))
    have B1 := hid b1
    clear A1 b1 FU DU
    go_wp2_with fail
    with_reducible refine D1.out.mono ?_
    rintro e w2 ⟨rfl, b2⟩
    have B2 := hid (below_on B1.out b2)
    clear b2 D1
    go_wp2_with fail
    go_ret2
    exact ⟨rfl, B2.out⟩
  by_cases v2 : V = 120
  · subst v2
    rw [show Wh.base 120 = 16 from rfl, show decide ((120 : Int) = 88) = false from rfl]
    go_enter Tryz.func154, Tryz.ntmps154
    go_wp2_with fail
    with_reducible refine FU.out.mono ?_
    rintro e w1 ⟨r, os, rfl, A1, b1⟩
    have D1 := hid (DU.out r os 16 false w1 A1 (by omega) (by omega))
    have B1 := hid b1
    clear A1 b1 FU DU
    go_wp2_with fail
    with_reducible refine D1.out.mono ?_
    rintro e w2 ⟨rfl, b2⟩
    have B2 := hid (below_on B1.out b2)
    clear b2 D1
    go_wp2_with fail
    go_ret2
    exact ⟨rfl, B2.out⟩
  by_cases v3 : V = 111
  · subst v3
    rw [show Wh.base 111 = 8 from rfl, show decide ((111 : Int) = 88) = false from rfl]
    go_enter Tryz.func154, Tryz.ntmps154
    go_wp2_with fail
    with_reducible refine FU.out.mono ?_
    rintro e w1 ⟨r, os, rfl, A1, b1⟩
    have D1 := hid (DU.out r os 8 false w1 A1 (by omega) (by omega))
    have B1 := hid b1
    clear A1 b1 FU DU
    go_wp2_with fail
    with_reducible refine D1.out.mono ?_
    rintro e w2 ⟨rfl, b2⟩
    have B2 := hid (below_on B1.out b2)
    clear b2 D1
    go_wp2_with fail
    go_ret2
    exact ⟨rfl, B2.out⟩
  have e1 : Wh.base V = 10 := by rw [Wh.base, if_neg v3, if_neg (by omega)]
  rw [e1, decide_eq_false v1]
  have u1 : (V == 88) = false := by simpa using v1
  have u2 : (V == 120) = false := by simpa using v2
  have u3 : (V == 111) = false := by simpa using v3
  clear v1 v2 v3 e1
  go_enter Tryz.func154, Tryz.ntmps154
  go_wp2_with fail
  with_reducible refine FU.out.mono ?_
  rintro e w1 ⟨r, os, rfl, A1, b1⟩
  have D1 := hid (DU.out r os 10 false w1 A1 (by omega) (by omega))
  have B1 := hid b1
  clear A1 b1 FU DU
  go_wp2_with fail
  with_reducible refine D1.out.mono ?_
  rintro e w2 ⟨rfl, b2⟩
  have B2 := hid (below_on B1.out b2)
  clear b2 D1
  go_wp2_with fail
  go_ret2
  exact ⟨rfl, B2.out⟩

theorem prefix_zero (b : List Int) (hb : Wh.By b) : Lib.hasPrefix (strOfNums b).data.toList (⟨#[48]⟩ : ByteArray).data.toList = decide (b.getD 0 0 = 48) := by
  rw [strOfNums_data, Lib.hasPrefix]
  cases b with
  | nil => rfl
  | cons x l =>
    have hx := hb x (by simp)
    simp only [List.map_cons, List.getD_cons_zero, List.isPrefixOf, Bool.and_true]
    by_cases h : x = 48
    · subst h; rfl
    · rw [decide_eq_false h, beq_eq_false_iff_ne]
      intro c
      have : (48 : UInt8).toNat = (UInt8.ofNat x.toNat).toNat := by rw [← c]
      rw [UInt8.toNat_ofNat_of_lt' (by show x.toNat < 256; omega)] at this
      have e48 : (48 : UInt8).toNat = 48 := rfl
      omega

/-- What marked tells. -/
def mkH (V u : Int) (b : List Int) : List Int := if V = 111 ∧ b.getD 0 0 ≠ 48 then [] else if V = 120 ∧ u ≠ 0 then [48, 120] else if V = 88 ∧ u ≠ 0 then [48, 88] else []
def mkB (V : Int) (b : List Int) : List Int := if V = 111 ∧ b.getD 0 0 ≠ 48 then 48 :: b else b
theorem ret_ss {a b c d : ByteArray} (h : a = b) (k : c = d) : Ending.returned (.tuple #[.string a, .string c]) = .returned (.tuple #[.string b, .string d]) := by rw [h, k]

set_option maxRecDepth 100000 in
theorem marked_any (V u : Int) (b : List Int) (w : World) (hb : Wh.By b) (hl : b.length ≤ 270000) :
    Calls Tryz.prog 155 #[.int .u8 V, .string (strOfNums b), .int .u64 u] w fun e w' => e = .returned (.tuple #[.string (strOfNums (mkH V u b)), .string (strOfNums (mkB V b))]) ∧ Below w.heap.size w w' := by
  have HP := hid (fun W' => Any.strings_HasPrefix { repLays with } (strOfNums b) ⟨#[48]⟩ W')
  have PZ := prefix_zero b hb
  have sz : (strOfNums b).size = b.length := strOfNums_size b
  have l2 : (b.length : Int) ≤ 270000 := by omega
  have AP : Hid (⟨#[48]⟩ ++ strOfNums b = strOfNums (48 :: b)) := by
    have q := str_app (a := [48]) (b := b) (by intro x hx; simp at hx; omega) hb
    exact q
  have BR := hid (Below.refl w.heap.size w)
  by_cases v1 : V = 111
  · subst v1
    by_cases hz : b.getD 0 0 = 48
    · have e1 : strOfNums (mkH 111 u b) = ⟨#[]⟩ := by rw [mkH, if_neg (fun q => q.2 hz), if_neg (by omega), if_neg (by omega)]; rfl
      have e2 : mkB 111 b = b := if_neg (fun q => q.2 hz)
      rw [e1, e2]
      rw [decide_eq_true hz] at PZ
      rw [PZ] at HP
      clear hb hl hz PZ e1 e2 AP
      go_enter Tryz.func155, Tryz.ntmps155
      go_wp2_with (go_at_call 204; refine (HP.out _).mono ?_; rintro e w2 ⟨rfl, rfl⟩)
      go_ret2
      exact ⟨rfl, BR.out⟩
    · have e1 : strOfNums (mkH 111 u b) = ⟨#[]⟩ := by rw [mkH, if_pos ⟨rfl, hz⟩]; rfl
      have e2 : mkB 111 b = 48 :: b := if_pos ⟨rfl, hz⟩
      rw [e1, e2]
      rw [decide_eq_false hz] at PZ
      rw [PZ] at HP
      clear hb hl hz PZ e1 e2
      go_enter Tryz.func155, Tryz.ntmps155
      go_wp2_with (go_at_call 204; refine (HP.out _).mono ?_; rintro e w2 ⟨rfl, rfl⟩)
      go_ret2
      exact ⟨ret_ss rfl AP.out, BR.out⟩
  have u1 : (V == 111) = false := by simpa using v1
  have e2 : mkB V b = b := if_neg (fun q => v1 q.1)
  rw [e2]
  clear HP PZ AP hb hl e2
  by_cases u0 : u = 0
  · have e1 : strOfNums (mkH V u b) = ⟨#[]⟩ := by rw [mkH, if_neg (fun q => v1 q.1), if_neg (fun q => q.2 u0), if_neg (fun q => q.2 u0)]; rfl
    rw [e1]
    subst u0
    clear v1 e1
    by_cases v2 : V = 120
    · subst v2
      go_enter Tryz.func155, Tryz.ntmps155
      go_wp2_with fail
      go_ret2
      exact ⟨rfl, BR.out⟩
    · have u2 : (V == 120) = false := by simpa using v2
      clear v2
      by_cases v3 : V = 88
      · subst v3
        go_enter Tryz.func155, Tryz.ntmps155
        go_wp2_with fail
        go_ret2
        exact ⟨rfl, BR.out⟩
      · have u3 : (V == 88) = false := by simpa using v3
        clear v3
        go_enter Tryz.func155, Tryz.ntmps155
        go_wp2_with fail
        go_ret2
        exact ⟨rfl, BR.out⟩
  · have n0 : (u == 0) = false := by simpa using u0
    have n1 : (u != 0) = true := by simpa using u0
    by_cases v2 : V = 120
    · have e1 : strOfNums (mkH V u b) = ⟨#[48, 120]⟩ := by rw [mkH, if_neg (fun q => v1 q.1), if_pos ⟨v2, u0⟩]; rfl
      rw [e1]
      subst v2
      clear v1 e1 u0 u1
      go_enter Tryz.func155, Tryz.ntmps155
      go_wp2_with fail
      go_ret2
      exact ⟨rfl, BR.out⟩
    · by_cases v3 : V = 88
      · have e1 : strOfNums (mkH V u b) = ⟨#[48, 88]⟩ := by rw [mkH, if_neg (fun q => v1 q.1), if_neg (fun q => v2 q.1), if_pos ⟨v3, u0⟩]; rfl
        rw [e1]
        subst v3
        clear v1 v2 e1 u0 u1
        go_enter Tryz.func155, Tryz.ntmps155
        go_wp2_with fail
        go_ret2
        exact ⟨rfl, BR.out⟩
      · have e1 : strOfNums (mkH V u b) = ⟨#[]⟩ := by rw [mkH, if_neg (fun q => v1 q.1), if_neg (fun q => v2 q.1), if_neg (fun q => v3 q.1)]; rfl
        rw [e1]
        have u2 : (V == 120) = false := by simpa using v2
        have u3 : (V == 88) = false := by simpa using v3
        clear v1 v2 v3 e1 u0
        go_enter Tryz.func155, Tryz.ntmps155
        go_wp2_with fail
        go_ret2
        exact ⟨rfl, BR.out⟩

def UnsTold (V F W P u : Int) (w : World) (e : Ending) (w' : World) : Prop := e = .returned (.tuple #[.string (strOfNums (Wh.uns V F W P u)), .int .i64 (Wh.unsE V F W P)]) ∧ Below w.heap.size w w'

set_option maxRecDepth 100000 in
set_option maxHeartbeats 2000000 in
theorem unsigned_any (V F W P u : Int) (w : World) (h0 : 0 ≤ V) (h1 : V < 256) (u0 : 0 ≤ u) (u1 : u < 18446744073709551616) :
    Calls Tryz.prog 101 #[.agg #[.int .u8 V, .int .i64 F, .int .i64 W, .int .i64 P], .int .u64 u] w fun e w' => UnsTold V F W P u w e w' := by
  have B0 := hid (SB.new w V F W P)
  have CV := hid (fun W' => checkVerb_any V F W P ⟨#[111, 117, 120, 88]⟩ _ W' (vb_o V h0 h1))
  by_cases hV : V = 111 ∨ V = 117 ∨ V = 120 ∨ V = 88
  · rw [if_pos (decide_eq_true hV)] at CV
    have hE : Wh.unsE V F W P = Wh.chk F W P := by rw [Wh.unsE, if_pos hV]
    by_cases hc : Wh.chk F W P = 0
    · obtain ⟨⟨f0, f1⟩, ⟨wl, wu⟩, ⟨p0, p1⟩⟩ := Wh.chk_ok hc
      rw [hc] at CV
      have UD := hid (fun W' => unsignedDigits_any V u W' u0 u1)
      have bd := base_bd V
      have dl := dig_u (Wh.base V) (decide (V = 88)) u u0 u1 bd.1 bd.2
      have dy := Wh.dig_by (Wh.base V) (decide (V = 88)) u
      have FI := hid (fun W' => filled_any V F W P (Wh.dig (Wh.base V) (decide (V = 88)) u) W' p0 p1 dy dl)
      have fy : Wh.By (Wh.ubody V P u) := Wh.fil_by dy
      have fl : (Wh.ubody V P u).length ≤ 268000 := by rw [Wh.ubody, Wh.fil_len]; split <;> omega
      rw [show Wh.fil P (Wh.dig (Wh.base V) (decide (V = 88)) u) = Wh.ubody V P u from rfl] at FI
      have MK := hid (fun W' => marked_any V u (Wh.ubody V P u) W' fy (by omega))
      have HA := hid (fun W' => has_any V F W P 8 W' f0 f1 (by omega))
      have ep : (P == -1) = decide (P = -1) := by by_cases h : P = -1 <;> simp [h]
      have PA : ∀ H B, Wh.uhead V F u = H → Wh.utext V F P u = B → Hid (∀ W' (k : Below w.heap.size w W'), Calls Tryz.prog 94 #[.agg #[.int .u8 V, .int .i64 F, .int .i64 W, .int .i64 P], .string (strOfNums H), .string (strOfNums B), .bool (decide (P = -1))] W' fun e w' => ∃ s, e = .returned (.tuple #[.string s, .int .i64 0]) ∧ UnsTold V F W P u w (.returned (.tuple #[.string s, .int .i64 0])) w') := by
        rintro H B rfl rfl W' k
        have hh : Wh.By (Wh.uhead V F u) ∧ (Wh.uhead V F u).length ≤ 2 := by
          unfold Wh.uhead
          split
          · exact ⟨by intro x hx; simp at hx; omega, by simp⟩
          · split
            · exact ⟨by intro x hx; simp at hx; omega, by simp⟩
            · exact ⟨Wh.By.nil, by simp⟩
        have hb : Wh.By (Wh.utext V F P u) ∧ (Wh.utext V F P u).length ≤ 268001 := by
          unfold Wh.utext
          split
          · exact ⟨fy.cons (by omega), by rw [List.length_cons]; omega⟩
          · exact ⟨fy, by omega⟩
        have pe : Wh.padE F W P (Wh.uhead V F u) (Wh.utext V F P u) = 0 := by rw [Wh.padE, if_pos hc, if_neg (by omega)]
        refine (pad_any V F W P _ _ _ W' hh.1 hb.1 (by omega) (by omega)).mono ?_
        rintro e w' ⟨rfl, b⟩
        rw [pe]
        exact ⟨_, rfl, by rw [Wh.uns, hE, if_pos hc, hc, Wh.pad, if_pos pe]; rfl, below_on k b⟩
      cases h8 : Wh.bit F 8 with
      | true =>
        have e1 : Wh.uhead V F u = mkH V u (Wh.ubody V P u) := by
          rw [Wh.uhead, mkH]
          by_cases a : V = 111
          · rw [if_neg (by omega), if_neg (by omega)]
            by_cases c : (Wh.ubody V P u).getD 0 0 ≠ 48
            · rw [if_pos ⟨a, c⟩]
            · rw [if_neg (fun q => c q.2), if_neg (by omega), if_neg (by omega)]
          · rw [if_neg (c := V = 111 ∧ _) (fun q => a q.1)]
            by_cases b : V = 120 ∧ u ≠ 0
            · rw [if_pos ⟨h8, b.2, b.1⟩, if_pos b]
            · rw [if_neg (fun q => b ⟨q.2.2, q.2.1⟩), if_neg b]
              by_cases c : V = 88 ∧ u ≠ 0
              · rw [if_pos ⟨h8, c.2, c.1⟩, if_pos c]
              · rw [if_neg (fun q => c ⟨q.2.2, q.2.1⟩), if_neg c]
        have e2 : Wh.utext V F P u = mkB V (Wh.ubody V P u) := by
          rw [Wh.utext, mkB, Wh.umark, h8]
          by_cases a : V = 111 ∧ (Wh.ubody V P u).getD 0 0 ≠ 48
          · rw [if_pos a, if_pos (by rw [decide_eq_true a.1, decide_eq_true a.2]; rfl)]
          · rw [if_neg a, if_neg]
            intro q
            simp only [Bool.true_and, Bool.and_eq_true, decide_eq_true_eq] at q
            exact a q
        have PB := PA _ _ e1 e2
        rw [h8] at HA
        clear PA hV hE hc f0 f1 wl wu p0 p1 bd dl dy fy fl e1 e2 h0 h1 u0 u1
        generalize Wh.dig (Wh.base V) (decide (V = 88)) u = D at *
        generalize Wh.ubody V P u = BO at *
        generalize mkH V u BO = HH at *
        generalize mkB V BO = BB at *
        generalize decide (P = -1) = ez at *
        go_enter Tryz.func101, Tryz.ntmps101
        go_wp2_with fail
        with_reducible refine (CV.out _).mono ?_
        rintro e w1 ⟨rfl, b1⟩
        have B1 := hid (B0.out.on b1)
        clear b1 CV B0
        obtain ⟨c0, c1, c2, c3⟩ := B1.out.flat
        go_wp2_with fail
        with_reducible refine (UD.out _).mono ?_
        rintro e w2 ⟨rfl, b2⟩
        have B2 := hid (B1.out.on b2)
        clear b2 UD B1 c0 c1 c2 c3
        obtain ⟨c0, c1, c2, c3⟩ := B2.out.flat
        go_wp2_with fail
        with_reducible refine (FI.out _).mono ?_
        rintro e w3 ⟨rfl, b3⟩
        have B3 := hid (B2.out.on b3)
        clear b3 FI B2 c0 c1 c2 c3
        obtain ⟨c0, c1, c2, c3⟩ := B3.out.flat
        go_wp2_with fail
        with_reducible refine (HA.out _).mono ?_
        rintro e w4 ⟨rfl, b4⟩
        have B4 := hid (B3.out.on b4)
        clear b4 HA B3 c0 c1 c2 c3
        obtain ⟨c0, c1, c2, c3⟩ := B4.out.flat
        go_wp2_with fail
        with_reducible refine (MK.out _).mono ?_
        rintro e w5 ⟨rfl, b5⟩
        have B5 := hid (B4.out.on b5)
        clear b5 MK B4 c0 c1 c2 c3
        obtain ⟨c0, c1, c2, c3⟩ := B5.out.flat
        go_wp2_with fail
        with_reducible refine (PB.out _ B5.out.bel).mono ?_
        rintro e w6 ⟨s, rfl, R⟩
        have R := hid R
        clear PB
        go_wp2_with fail
        go_ret2
        exact R.out
      | false =>
        have e1 : Wh.uhead V F u = [] := by rw [Wh.uhead, h8, if_neg (fun q => Bool.false_ne_true q.1), if_neg (fun q => Bool.false_ne_true q.1)]
        have e2 : Wh.utext V F P u = Wh.ubody V P u := by rw [Wh.utext, Wh.umark, h8, Bool.false_and, Bool.false_and, if_neg Bool.false_ne_true]
        have PB := PA _ _ e1 e2
        rw [show strOfNums [] = ⟨#[]⟩ from rfl] at PB
        rw [h8] at HA
        clear PA hV hE hc f0 f1 wl wu p0 p1 bd dl dy fy fl e1 e2 h0 h1 u0 u1 MK
        generalize Wh.dig (Wh.base V) (decide (V = 88)) u = D at *
        generalize Wh.ubody V P u = BO at *
        generalize decide (P = -1) = ez at *
        go_enter Tryz.func101, Tryz.ntmps101
        go_wp2_with fail
        with_reducible refine (CV.out _).mono ?_
        rintro e w1 ⟨rfl, b1⟩
        have B1 := hid (B0.out.on b1)
        clear b1 CV B0
        obtain ⟨c0, c1, c2, c3⟩ := B1.out.flat
        go_wp2_with fail
        with_reducible refine (UD.out _).mono ?_
        rintro e w2 ⟨rfl, b2⟩
        have B2 := hid (B1.out.on b2)
        clear b2 UD B1 c0 c1 c2 c3
        obtain ⟨c0, c1, c2, c3⟩ := B2.out.flat
        go_wp2_with fail
        with_reducible refine (FI.out _).mono ?_
        rintro e w3 ⟨rfl, b3⟩
        have B3 := hid (B2.out.on b3)
        clear b3 FI B2 c0 c1 c2 c3
        obtain ⟨c0, c1, c2, c3⟩ := B3.out.flat
        go_wp2_with fail
        with_reducible refine (HA.out _).mono ?_
        rintro e w4 ⟨rfl, b4⟩
        have B4 := hid (B3.out.on b4)
        clear b4 HA B3 c0 c1 c2 c3
        obtain ⟨c0, c1, c2, c3⟩ := B4.out.flat
        go_wp2_with fail
        with_reducible refine (PB.out _ B4.out.bel).mono ?_
        rintro e w6 ⟨s, rfl, R⟩
        have R := hid R
        clear PB
        go_wp2_with fail
        go_ret2
        exact R.out
    · have G : Hid (∀ w', Below w.heap.size w w' → UnsTold V F W P u w (.returned (.tuple #[.string ⟨#[]⟩, .int .i64 (Wh.chk F W P)])) w') := fun w' k => ⟨by rw [Wh.uns, hE, if_neg hc]; rfl, k⟩
      have hne : (Wh.chk F W P == 0) = false := by simpa using hc
      clear hc hE hV
      generalize Wh.chk F W P = E at *
      go_enter Tryz.func101, Tryz.ntmps101
      go_wp2_with fail
      refine (CV.out _).mono ?_
      rintro e w1 ⟨rfl, b1⟩
      have R := hid (G.out _ (B0.out.on b1).bel)
      clear b1 CV
      go_wp2_with fail
      go_ret2
      exact R.out
  · rw [if_neg (by simpa using hV)] at CV
    have hE : Wh.unsE V F W P = 140 := by rw [Wh.unsE, if_neg hV]
    have G : Hid (∀ w', Below w.heap.size w w' → UnsTold V F W P u w (.returned (.tuple #[.string ⟨#[]⟩, .int .i64 140])) w') := fun w' k => ⟨by rw [Wh.uns, hE, if_neg (by decide)]; rfl, k⟩
    clear hV hE
    go_enter Tryz.func101, Tryz.ntmps101
    go_wp2_with fail
    refine (CV.out _).mono ?_
    rintro e w1 ⟨rfl, b1⟩
    have R := hid (G.out _ (B0.out.on b1).bel)
    clear b1 CV
    go_wp2_with fail
    go_ret2
    exact R.out
end Go.Proofs.YtiflponlioldmaaGreatDoor

namespace Go.Proofs.YtiflponlioldmaaGreatDoor
open Go Go.RowKit Go.Deep Go.Shelf

namespace Ie
theorem rwhp_bd (r : Int) (h0 : 0 ≤ r) (h1 : r < 9218868437227405312) : 0 ≤ whp r ∧ whp r < Nm.pw 4096 := by
  have v0 := vl_nn h0
  have mb := man_nn r h0
  have eb : ex r ≤ 2046 := by simp only [ex]; omega
  have e54 : (2 : Int) ^ 54 = 18014398509481984 := by decide
  have a1 : whp r ≤ vl r := Int.ediv_le_self _ v0
  have a0 : 0 ≤ whp r := Int.ediv_nonneg v0 (Int.le_of_lt (Nm.two_pos 1075))
  have a2 : 2 * man r * 2 ^ ex r ≤ 2 ^ 54 * 2 ^ ex r := Int.mul_le_mul_of_nonneg_right (by rw [e54]; omega) (Int.le_of_lt (Nm.two_pos (ex r)))
  rw [← Nm.two_add] at a2
  have a3 : (2 : Int) ^ (54 + ex r) ≤ Nm.pw 4095 := by rw [Nm.pw_two]; exact Nm.two_mono (by omega)
  have a4 : Nm.pw 4095 < Nm.pw 4096 := by have e : Nm.pw 4096 = 18446744073709551616 * Nm.pw 4095 := Nm.pw_succ 4095; have := Nm.pw_pos 4095; omega
  have a5 : vl r = 2 * man r * 2 ^ ex r := rfl
  rw [← a5] at a2
  exact ⟨a0, Int.lt_of_le_of_lt (Int.le_trans a1 (Int.le_trans a2 a3)) a4⟩
end Ie
theorem fin_iff {d : Int} : Ie.fnt d = true ↔ d % 9223372036854775808 < 9218868437227405312 := by
  rw [← fnt_abs d, decide_eq_true_iff]
theorem fin_not {d : Int} : Ie.fnt d = false ↔ 9218868437227405312 ≤ d % 9223372036854775808 := by
  rw [← fnt_abs d, decide_eq_false_iff_not]; omega

set_option maxRecDepth 100000 in
theorem rcheck_any (V F W P : Int) (w : World) (v0 : 0 ≤ V) (v1 : V < 256) :
    Calls Tryz.prog 49 #[.agg #[.int .u8 V, .int .i64 F, .int .i64 W, .int .i64 P]] w fun e w' => e = .returned (.int .i64 (if Dr.idx Dr.verbs V < 0 then 140 else Wh.chk F W P)) ∧ Below w.heap.size w w' := by
  have B0 := hid (SB.new w V F W P)
  have IX := hid (fun wk => idx_any ⟨#[100, 105, 111, 117, 120, 88, 99, 115, 101, 69, 102, 70, 103, 71]⟩ Dr.verbs V wk rfl v0 v1)
  have PA : Hid (∀ wk, Calls Tryz.prog 94 #[.agg #[.int .u8 V, .int .i64 F, .int .i64 W, .int .i64 P], .string ⟨#[]⟩, .string ⟨#[]⟩, .bool false] wk fun e w' => ∃ t, e = .returned (.tuple #[.string t, .int .i64 (Wh.chk F W P)]) ∧ Below wk.heap.size wk w') := by
    intro wk
    refine (pad_any V F W P [] [] false wk Wh.By.nil Wh.By.nil (by simp) (by simp)).mono ?_
    rintro e w' ⟨rfl, k⟩
    rw [(pad_small (F := F) (W := W) (P := P) (z := false) (h := []) (b := []) (by simp)).1]
    exact ⟨_, rfl, k⟩
  generalize Dr.idx Dr.verbs V = ix at *
  generalize Wh.chk F W P = E at *
  clear v0 v1
  by_cases h : ix < 0
  · rw [if_pos h]
    have R := hid B0.out.bel
    clear PA B0
    go_enter Tryz.func49, Tryz.ntmps49
    go_wp2_with (go_at_call 54; refine (IX.out _).mono ?_; rintro e w2 ⟨rfl, rfl⟩)
    go_ret
    exact ⟨rfl, R.out⟩
  · rw [if_neg h]
    go_enter Tryz.func49, Tryz.ntmps49
    go_wp2_with (go_at_call 54; refine (IX.out _).mono ?_; rintro e w2 ⟨rfl, rfl⟩)
    with_reducible refine (PA.out _).mono ?_
    rintro e w1 ⟨t, rfl, b1⟩
    have R := hid (B0.out.on b1).bel
    clear PA IX B0 b1
    go_wp2_with fail
    go_ret
    exact ⟨rfl, R.out⟩

theorem alloc_d (w : World) (o : Obj) : Below w.heap.size w (w.alloc o) := alloc_b w o
set_option maxRecDepth 100000 in
theorem takes_any (V : Int) (x : Bool) (n : Int) (s : ByteArray) (w : World) :
    Calls Tryz.prog 50 #[.int .u8 V, .agg #[.bool x, .int .u64 n, .string s]] w fun e w' => e = .returned (.bool (decide (V = 99) || (x == decide (V = 115)))) ∧ Below w.heap.size w w' := by
  have R := hid (alloc_b w (.cells #[.bool x, .int .u64 n, .string s] 28))
  by_cases h : V = 99
  · subst h
    go_enter Tryz.func50, Tryz.ntmps50
    go_wp2_with fail
    go_ret
    exact ⟨rfl, R.out⟩
  · have h1 : (V == 99) = false := by simpa using h
    rw [decide_eq_false h, Bool.false_or]
    by_cases k : V = 115
    · subst k
      cases x <;> (go_enter Tryz.func50, Tryz.ntmps50; go_wp2_with fail; go_ret; exact ⟨rfl, R.out⟩)
    · have h2 : (V == 115) = false := by simpa using k
      rw [decide_eq_false k]
      clear h k
      cases x <;> (go_enter Tryz.func50, Tryz.ntmps50; go_wp2_with fail; go_ret; exact ⟨rfl, R.out⟩)

namespace Rn
theorem low_neg {d : Int} (h : 9223372036854775808 ≤ d) : low d = (-(wpt d)) % 18446744073709551616 := by rw [low, if_pos h]
theorem low_pos {d : Int} (h : ¬ 9223372036854775808 ≤ d) : low d = wpt d % 18446744073709551616 := by rw [low, if_neg h]
end Rn
set_option maxRecDepth 100000 in
theorem rlow_any (d : Int) (r : Option Addr) (os : List Int) (B : Nat) (w : World) (h : Ans B w r os (Rn.wpt d)) (hl : os.length ≤ 4096) :
    Calls Tryz.prog 97 #[.bool (decide (9223372036854775808 ≤ d)), .slice r os.length os.length] w fun e w' => e = .returned (.int .u64 (Rn.low d)) ∧ w' = w := by
  obtain ⟨hL, hZ, hT, hV, -⟩ := h
  cases os with
  | nil =>
    have z : Rn.low d = 0 := by
      have e : Rn.wpt d = 0 := hV.symm
      rw [Rn.low, e]; split <;> rfl
    rw [z]
    clear z hV hT hZ hL
    generalize decide (9223372036854775808 ≤ d) = ng
    go_enter Tryz.func97, Tryz.ntmps97
    go_wp2_with fail
    go_ret
    exact ⟨rfl, rfl⟩
  | cons x xs =>
    rcases hL with hL | ⟨b, off, rfl, hc⟩
    · simp at hL
    · have c0 := hc 0 (by simp)
      rw [Nat.add_zero, List.getD_cons_zero] at c0
      have x0 := hZ x (by simp)
      have e : Rn.wpt d = x + 18446744073709551616 * Nm.val xs := hV.symm
      have ln : ¬ ((x :: xs).length : Int) = 0 := by rw [List.length_cons]; omega
      have lp : (0 : Int) < ((x :: xs).length : Int) := by rw [List.length_cons]; omega
      by_cases hd : 9223372036854775808 ≤ d
      · have z : Rn.low d = (-x) % 18446744073709551616 := by rw [Rn.low_neg hd, e]; omega
        have Z : Hid (IntKind.u64.wrap (-x) = Rn.low d) := by rw [Hid, z, IntKind.wrap_u64]
        rw [decide_eq_true hd]
        clear hc hZ hT hV e z hd
        generalize Rn.low d = L at *
        have ne : (((x :: xs).length : Int) == 0) = false := by simpa using ln
        generalize (x :: xs).length = n at *
        go_enter Tryz.func97, Tryz.ntmps97
        go_wp2_with fail
        go_ret
        exact ⟨by rw [← Z.out]; rfl, rfl⟩
      · have z : Rn.low d = x := by rw [Rn.low_pos hd, e]; omega
        rw [decide_eq_false hd, z]
        clear hc hZ hT hV e z hd
        have ne : (((x :: xs).length : Int) == 0) = false := by simpa using ln
        generalize (x :: xs).length = n at *
        go_enter Tryz.func97, Tryz.ntmps97
        go_wp2_with fail
        go_ret
        exact ⟨rfl, rfl⟩
end Go.Proofs.YtiflponlioldmaaGreatDoor

namespace Go.Proofs.YtiflponlioldmaaGreatDoor
open Go Go.RowKit Go.Deep Go.Shelf

/-- What wholePart writes. -/
noncomputable def Rn.whT (V F W P d : Int) : List Int :=
  if V = 100 ∨ V = 105 then (if Ie.fnt d = true then Wh.sigT F W P (Po.ng d) (Rn.wpt d) else Po.spc V F W P d) else (if Ie.fnt d = true then Wh.unsT V F W P (Rn.low d) else Po.spc V F W P d)

theorem idx_di {V : Int} : (0 ≤ Dr.idx [100, 105] V) ↔ (V = 100 ∨ V = 105) := by
  constructor
  · intro h
    rcases Dr.idx_cons h with h | h
    · exact .inl h
    · rcases Dr.idx_cons h with h | h
      · exact .inr h
      · simp [Dr.idx] at h
  · rintro (rfl | rfl) <;> decide

theorem rone_str {g n : Nat} {W : World} {fs : List Int} (o : OwnB W g fs) (hn : fs.length = n) :
    (convert 70 9 (.slice (some ⟨g, 0, none⟩) n n)).run Tryz.prog W = .ok (.string (strOfNums fs)) W :=
  run_convert_bytes_arg (P := Tryz.prog) W 70 5 Tryz.underlying70 Tryz.underlying5 g 0 n n fs hn (fun i hi => by rw [Nat.zero_add, o.cell i (by omega)]) 9 Tryz.underlying9
set_option maxRecDepth 100000 in
set_option maxHeartbeats 2000000 in
theorem wholePart_any (V F W P d : Int) (w : World) (v0 : 0 ≤ V) (v1 : V < 256) (h0 : 0 ≤ d) (h1 : d < 18446744073709551616) (hc : Wh.chk F W P = 0) (hV : V = 100 ∨ V = 105 ∨ V = 111 ∨ V = 117 ∨ V = 120 ∨ V = 88) :
    Calls Tryz.prog 55 #[.agg #[.int .u8 V, .int .i64 F, .int .i64 W, .int .i64 P], .int .u64 d] w fun e w' => e = .returned (.tuple #[.string (strOfNums (Rn.whT V F W P d)), .int .i64 0]) ∧ Below w.heap.size w w' := by
  have B0 := hid (SB.new w V F W P)
  by_cases hf : Ie.fnt d = true
  · have hr := fin_iff.1 hf
    obtain ⟨V0, Vb⟩ := Ie.rwhp_bd (d % 9223372036854775808) (by omega) hr
    have WH := hid (fun wk => whole_fin d wk h0 h1 hr)
    have IX := hid (fun wk => idx_any ⟨#[100, 105]⟩ [100, 105] V wk rfl v0 v1)
    by_cases hd : V = 100 ∨ V = 105
    · have ix : 0 ≤ Dr.idx [100, 105] V := idx_di.2 hd
      have eT : Rn.whT V F W P d = Wh.sigT F W P (Po.ng d) (Rn.wpt d) := by rw [Rn.whT, if_pos hd, if_pos hf]
      have SG : Hid (∀ wk r os B, Ans B wk r os (Ie.whp (d % 9223372036854775808)) → Calls Tryz.prog 100 #[.agg #[.int .u8 V, .int .i64 F, .int .i64 W, .int .i64 P], .bool (decide (9223372036854775808 ≤ d)), .slice r os.length os.length] wk fun e w' => e = .returned (.tuple #[.string (strOfNums (Rn.whT V F W P d)), .int .i64 0]) ∧ Below wk.heap.size wk w') := by
        intro wk r os B A
        have l := ans_small A 4096 Vb
        refine (wsigned_any V F W P _ r _ _ os wk v0 v1 (A.arg (by omega))).mono ?_
        rintro e w' ⟨rfl, k⟩
        have t0 : Wh.sigE V F W P (Nm.tsize os) = 0 := by rw [Wh.sigE, if_pos hd, if_pos hc, if_neg (by rw [A.2.2.1]; omega)]
        refine ⟨?_, k⟩
        rw [Wh.sig, t0, if_pos rfl, eT, A.2.2.2.1]; rfl
      generalize Rn.whT V F W P d = T at *
      generalize Dr.idx [100, 105] V = I at *
      unfold WholeTold at WH
      generalize Ie.whp (d % 9223372036854775808) = U at *
      generalize decide (9223372036854775808 ≤ d) = ng at *
      clear v0 v1 h0 h1 hc hV hf hr V0 Vb hd eT
      go_enter Tryz.func55, Tryz.ntmps55
      go_wp2_with fail
      with_reducible refine (WH.out _).mono ?_
      rintro e w1 ⟨r, os, rfl, a1, b1⟩
      have B1 := hid (B0.out.on b1)
      have A1 := hid a1
      clear b1 B0 WH a1
      obtain ⟨c0, c1, c2, c3⟩ := B1.out.flat
      go_wp2_with (go_at_call 54; refine (IX.out _).mono ?_; rintro e w2 ⟨rfl, rfl⟩)
      with_reducible refine (SG.out _ _ _ _ A1.out).mono ?_
      rintro e w2 ⟨rfl, b2⟩
      have R := hid (B1.out.on b2).bel
      clear b2 B1 SG
      go_wp2_with fail
      go_ret2
      exact ⟨rfl, R.out⟩
    · have ix : ¬ 0 ≤ Dr.idx [100, 105] V := fun q => hd (idx_di.1 q)
      have hu : V = 111 ∨ V = 117 ∨ V = 120 ∨ V = 88 := by omega
      have eT : Rn.whT V F W P d = Wh.unsT V F W P (Rn.low d) := by rw [Rn.whT, if_neg hd, if_pos hf]
      obtain ⟨l0, l1⟩ := Rn.low_bd d
      have LO : Hid (∀ wk r os B, Ans B wk r os (Ie.whp (d % 9223372036854775808)) → Calls Tryz.prog 97 #[.bool (decide (9223372036854775808 ≤ d)), .slice r os.length os.length] wk fun e w' => e = .returned (.int .u64 (Rn.low d)) ∧ w' = wk) := fun wk r os B A => rlow_any d r os B wk A (ans_small A 4096 Vb)
      have UN : Hid (∀ wk, Calls Tryz.prog 101 #[.agg #[.int .u8 V, .int .i64 F, .int .i64 W, .int .i64 P], .int .u64 (Rn.low d)] wk fun e w' => e = .returned (.tuple #[.string (strOfNums (Rn.whT V F W P d)), .int .i64 0]) ∧ Below wk.heap.size wk w') := by
        intro wk
        refine (unsigned_any V F W P (Rn.low d) wk v0 v1 l0 l1).mono ?_
        rintro e w' ⟨rfl, k⟩
        have t0 : Wh.unsE V F W P = 0 := by rw [Wh.unsE, if_pos hu, hc]
        exact ⟨by rw [Wh.uns, t0, if_pos rfl, eT], k⟩
      generalize Rn.whT V F W P d = T at *
      generalize Dr.idx [100, 105] V = I at *
      unfold WholeTold at WH
      generalize Rn.low d = L at *
      generalize Ie.whp (d % 9223372036854775808) = U at *
      generalize decide (9223372036854775808 ≤ d) = ng at *
      clear v0 v1 h0 h1 hc hV hf hr V0 Vb hd eT hu l0 l1
      go_enter Tryz.func55, Tryz.ntmps55
      go_wp2_with fail
      with_reducible refine (WH.out _).mono ?_
      rintro e w1 ⟨r, os, rfl, a1, b1⟩
      have B1 := hid (B0.out.on b1)
      have A1 := hid a1
      clear b1 B0 WH a1
      obtain ⟨c0, c1, c2, c3⟩ := B1.out.flat
      go_upto_region 7 with (go_at_call 54; refine (IX.out _).mono ?_; rintro e w2 ⟨rfl, hw⟩; rw [hw]; clear hw w2)
      clear c0 c1 c2 c3 IX ix
      have T1 := hid B1.out.drew
      have LO2 : Hid (Calls Tryz.prog 97 #[.bool ng, .slice r os.length os.length] w1.drew fun e w' => e = .returned (.int .u64 L) ∧ w' = w1.drew) := LO.out _ _ _ _ (A1.out.below (Below.drew (Below.refl _ _)) (Nat.le_refl _))
      go_region_held3 (fun wx => wx.cell? ⟨w.heap.size, 0, none⟩ = some (.int .u8 V) ∧ wx.cell? ⟨w.heap.size, 1, none⟩ = some (.int .i64 F) ∧ wx.cell? ⟨w.heap.size, 2, none⟩ = some (.int .i64 W) ∧ wx.cell? ⟨w.heap.size, 3, none⟩ = some (.int .i64 P)) (first | (with_reducible exact T2.out.flat) | (with_reducible exact T1.out.flat)) (first
        | (go_at_call 97; with_reducible refine LO2.out.mono ?_; rintro e wa ⟨rfl, hw⟩; rw [hw]; clear hw wa)
        | (go_at_call 101; with_reducible refine (UN.out _).mono ?_; rintro e wb ⟨rfl, hB⟩; have T2 := hid (T1.out.on hB); clear hB))
      have R := hid T2.out.bel
      clear UN LO LO2 B1 T1 T2 A1
      go_wp2_with fail
      go_ret2
      exact ⟨rfl, R.out⟩
  · have hf' : Ie.fnt d = false := by simpa using hf
    have WH := hid (fun wk => whole_inf d wk h0 h1 (fin_not.1 hf'))
    have SP : Hid (∀ wk, Calls Tryz.prog 99 #[.agg #[.int .u8 V, .int .i64 F, .int .i64 W, .int .i64 P], .int .u64 d] wk fun e w' => ∃ bl, e = .returned (.tuple #[.string (strOfNums (Rn.whT V F W P d)), .bool bl, .int .i64 0]) ∧ Below wk.heap.size wk w') := by
      intro wk
      refine (special_any V F W P d wk v0 v1 h0 h1).mono ?_
      rintro e w' ⟨rfl, k⟩
      have eT : Rn.whT V F W P d = Po.spc V F W P d := by rw [Rn.whT, if_neg hf]; split <;> rfl
      exact ⟨_, by rw [eT, hc], k⟩
    generalize Rn.whT V F W P d = T at *
    clear v0 v1 h0 h1 hc hV hf hf'
    go_enter Tryz.func55, Tryz.ntmps55
    go_wp2_with fail
    with_reducible refine (WH.out _).mono ?_
    rintro e w1 ⟨rfl, e1⟩
    subst e1
    obtain ⟨c0, c1, c2, c3⟩ := B0.out.flat
    go_wp2_with fail
    with_reducible refine (SP.out _).mono ?_
    rintro e w2 ⟨bl, rfl, b2⟩
    have R := hid (B0.out.on b2).bel
    clear b2 B0 SP WH c0 c1 c2 c3
    go_wp2_with fail
    go_ret2
    exact ⟨rfl, R.out⟩

/-- What charNumbered tells. -/
def Rn.chE (d : Int) : Int := if Ie.fnt d = true then 0 else 5
def Rn.chT (V F W P d : Int) : List Int := if Ie.fnt d = true then Wh.chr V F W P [Rn.low d % 256] else []

set_option maxRecDepth 100000 in
set_option maxHeartbeats 2000000 in
theorem charNum_any (F W P d : Int) (w : World) (h0 : 0 ≤ d) (h1 : d < 18446744073709551616) (hc : Wh.chk F W P = 0) :
    Calls Tryz.prog 53 #[.agg #[.int .u8 99, .int .i64 F, .int .i64 W, .int .i64 P], .int .u64 d] w fun e w' => e = .returned (.tuple #[.string (strOfNums (Rn.chT 99 F W P d)), .int .i64 (Rn.chE d)]) ∧ Below w.heap.size w w' := by
  have B0 := hid (SB.new w 99 F W P)
  by_cases hf : Ie.fnt d = true
  · have hr := fin_iff.1 hf
    obtain ⟨V0, Vb⟩ := Ie.rwhp_bd (d % 9223372036854775808) (by omega) hr
    have WH := hid (fun wk => whole_fin d wk h0 h1 hr)
    obtain ⟨l0, l1⟩ := Rn.low_bd d
    rw [Rn.chT, if_pos hf, Rn.chE, if_pos hf]
    have LO : Hid (∀ wk r os B, Ans B wk r os (Ie.whp (d % 9223372036854775808)) → Calls Tryz.prog 97 #[.bool (decide (9223372036854775808 ≤ d)), .slice r os.length os.length] wk fun e w' => e = .returned (.int .u64 (Rn.low d)) ∧ w' = wk) := fun wk r os B A => rlow_any d r os B wk A (ans_small A 4096 Vb)
    have CH : Hid (∀ wk, Calls Tryz.prog 52 #[.agg #[.int .u8 99, .int .i64 F, .int .i64 W, .int .i64 P], .string (strOfNums [Rn.low d % 256])] wk fun e w' => e = .returned (.tuple #[.string (strOfNums (Wh.chr 99 F W P [Rn.low d % 256])), .int .i64 0]) ∧ Below wk.heap.size wk w') := by
      intro wk
      refine (char_any 99 F W P [Rn.low d % 256] wk (by omega) (by omega) (fun x hx => by simp at hx; omega) (by simp)).mono ?_
      rintro e w' ⟨rfl, k⟩
      exact ⟨by rw [show Wh.chrE 99 F W P = 0 by rw [Wh.chrE, if_pos rfl, hc]], k⟩
    have WR : IntKind.u8.wrap (Rn.low d) = Rn.low d % 256 := by rw [IntKind.wrap_u8]
    generalize Wh.chr 99 F W P [Rn.low d % 256] = T at *
    obtain ⟨M, hM⟩ : ∃ M, Rn.low d % 256 = M := ⟨_, rfl⟩
    rw [hM] at WR CH
    unfold WholeTold at WH
    generalize Rn.low d = L at *
    generalize Ie.whp (d % 9223372036854775808) = U at *
    generalize decide (9223372036854775808 ≤ d) = ng at *
    clear h0 h1 hc hf hr V0 Vb l0 l1 hM
    go_enter Tryz.func53, Tryz.ntmps53
    go_wp2_with fail
    with_reducible refine (WH.out _).mono ?_
    rintro e w1 ⟨r, os, rfl, a1, b1⟩
    have B1 := hid (B0.out.on b1)
    have A1 := hid a1
    clear b1 B0 WH a1
    go_upto_region 4 with fail
    have LO2 : Hid (Calls Tryz.prog 97 #[.bool ng, .slice r os.length os.length] w1.drew fun e w' => e = .returned (.int .u64 L) ∧ w' = w1.drew) := LO.out _ _ _ _ (A1.out.below (Below.drew (Below.refl _ _)) (Nat.le_refl _))
    have CVA : ∀ W' : World, (convert 70 9 (.slice (some ⟨W'.heap.size, 0, none⟩) 1 1)).run Tryz.prog (W'.alloc (.cells #[.int .u8 M] 5)) = .ok (.string (strOfNums [M])) (W'.alloc (.cells #[.int .u8 M] 5)) := fun W' => rone_str (OwnB.alloc W' [M]) rfl
    have CVB : ∀ W' : World, (convert 70 9 (.slice (some ⟨W'.heap.size, 0, none⟩) 1 1)).run Tryz.prog (W'.alloc (.cells #[.int .u8 M] 5)).drew = .ok (.string (strOfNums [M])) (W'.alloc (.cells #[.int .u8 M] 5)).drew := fun W' => rone_str (W := (W'.alloc (.cells #[.int .u8 M] 5)).drew) (OwnB.alloc W' [M]) rfl
    have D1 := hid (B1.out.drew.on (alloc_b w1.drew (.cells #[.int .u8 M] 5)))
    obtain ⟨c0, c1, c2, c3⟩ := B1.out.drew.flat
    obtain ⟨d0, d1, d2, d3⟩ := D1.out.flat
    obtain ⟨f0, f1, f2, f3⟩ : (w1.alloc (.cells #[.int .u8 M] 5)).drew.cell? ⟨w.heap.size, 0, none⟩ = some (.int .u8 99) ∧ (w1.alloc (.cells #[.int .u8 M] 5)).drew.cell? ⟨w.heap.size, 1, none⟩ = some (.int .i64 F) ∧ (w1.alloc (.cells #[.int .u8 M] 5)).drew.cell? ⟨w.heap.size, 2, none⟩ = some (.int .i64 W) ∧ (w1.alloc (.cells #[.int .u8 M] 5)).drew.cell? ⟨w.heap.size, 3, none⟩ = some (.int .i64 P) := D1.out.flat
    have D2 : Hid (SB w w.heap.size 99 F W P (w1.alloc (.cells #[.int .u8 M] 5)).drew) := D1.out
    go_region_with (first
      | (go_at_call 97; with_reducible refine LO2.out.mono ?_; rintro e wa ⟨rfl, hw⟩; rw [hw]; clear hw wa)
      | (go_at_call 52; with_reducible refine (CH.out _).mono ?_; rintro e wb ⟨rfl, hB⟩; first | (have R := hid (D2.out.on hB).bel; clear hB) | (have R := hid (D1.out.on hB).bel; clear hB)))
    all_goals (go_wp2_with fail; go_ret2; exact ⟨rfl, R.out⟩)
  · have hf' : Ie.fnt d = false := by simpa using hf
    have WH := hid (fun wk => whole_inf d wk h0 h1 (fin_not.1 hf'))
    rw [Rn.chT, if_neg hf, Rn.chE, if_neg hf]
    have R := hid B0.out.bel
    clear h0 h1 hc hf hf' B0
    go_enter Tryz.func53, Tryz.ntmps53
    go_wp2_with fail
    with_reducible refine (WH.out _).mono ?_
    rintro e w1 ⟨rfl, e1⟩
    subst e1
    go_wp2_with fail
    go_ret2
    exact ⟨rfl, R.out⟩
end Go.Proofs.YtiflponlioldmaaGreatDoor

namespace Go.Proofs.YtiflponlioldmaaGreatDoor
open Go Go.RowKit Go.Deep

theorem acell_below {B : Nat} {w w' : World} {a : Addr} {v : Value} (h : w.cell? a = some v) (k : Below B w w') (hb : a.block < B) : w'.cell? a = some v := by
  rw [← h]; exact k.cell hb
def AgW (a : Rn.Ag) : Prop := (∀ x ∈ a.s, 0 ≤ x ∧ x < 256) ∧ (0 ≤ a.n ∧ a.n < 18446744073709551616) ∧ a.s.length ≤ 140737488351232
def ACells (w : World) (b o : Nat) (a : Rn.Ag) : Prop := w.cell? ⟨b, o, none⟩ = some (.bool a.x) ∧ w.cell? ⟨b, o + 1, none⟩ = some (.int .u64 a.n) ∧ w.cell? ⟨b, o + 2, none⟩ = some (.string (strOfNums a.s))
def LA (w : World) (p : Option Addr) (A : List Rn.Ag) : Prop := A = [] ∨ ∃ b off, p = some ⟨b, off, none⟩ ∧ ∀ i a, A[i]? = some a → ACells w b (off + i * 3) a
theorem ACells.below {w w' : World} {b o : Nat} {a : Rn.Ag} (h : ACells w b o a) (k : Below w.heap.size w w') : ACells w' b o a := by
  obtain ⟨c0, c1, c2⟩ := h
  exact ⟨acell_below c0 k (cell_lt c0), acell_below c1 k (cell_lt c1), acell_below c2 k (cell_lt c2)⟩
theorem LA.below {w w' : World} {p : Option Addr} {A : List Rn.Ag} (h : LA w p A) (k : Below w.heap.size w w') : LA w' p A := by
  rcases h with h | ⟨b, off, e, h⟩
  · exact .inl h
  · exact .inr ⟨b, off, e, fun i a hi => (h i a hi).below k⟩
/-- The arguments as a value. -/
def AgV (w : World) (v : Value) (A : List Rn.Ag) : Prop := ∃ p cap, v = .slice p A.length cap ∧ A.length ≤ cap ∧ LA w p A
theorem AgV.below {w w' : World} {v : Value} {A : List Rn.Ag} (h : AgV w v A) (k : Below w.heap.size w w') : AgV w' v A := by
  obtain ⟨p, cap, e, l, h⟩ := h
  exact ⟨p, cap, e, l, h.below k⟩
/-- The first one. -/
theorem LA.head {w : World} {p : Option Addr} {a : Rn.Ag} {A : List Rn.Ag} (h : LA w p (a :: A)) : ∃ b off, p = some ⟨b, off, none⟩ ∧ ACells w b off a := by
  rcases h with h | ⟨b, off, e, h⟩
  · simp at h
  · exact ⟨b, off, e, by have := h 0 a rfl; rwa [Nat.zero_mul, Nat.add_zero] at this⟩
/-- The others. -/
theorem LA.tail {w : World} {b off : Nat} {a : Rn.Ag} {A : List Rn.Ag} (h : LA w (some ⟨b, off, none⟩) (a :: A)) : LA w (some ⟨b, off + 3, none⟩) A := by
  rcases h with h | ⟨b', off', e, h⟩
  · simp at h
  · simp only [Option.some.injEq, Addr.mk.injEq] at e
    obtain ⟨rfl, rfl, _⟩ := e
    refine .inr ⟨b, off + 3, rfl, fun i x hi => ?_⟩
    have := h (i + 1) x (by simpa using hi)
    rwa [show off + (i + 1) * 3 = off + 3 + i * 3 by omega] at this
/-- A part. -/
theorem LA.take {w : World} {p : Option Addr} {A : List Rn.Ag} (h : LA w p A) (k : Nat) : LA w p (A.take k) := by
  rcases h with h | ⟨b, off, e, h⟩
  · left; rw [h]; simp
  · refine .inr ⟨b, off, e, fun i a hi => h i a ?_⟩
    rw [List.getElem?_take] at hi
    split at hi
    · exact hi
    · simp at hi
theorem LA.drop {w : World} {b off : Nat} {A : List Rn.Ag} (h : LA w (some ⟨b, off, none⟩) A) (k : Nat) : LA w (some ⟨b, off + 3 * k, none⟩) (A.drop k) := by
  rcases h with h | ⟨b', off', e, h⟩
  · left; rw [h]; simp
  · simp only [Option.some.injEq, Addr.mk.injEq] at e
    obtain ⟨rfl, rfl, _⟩ := e
    refine .inr ⟨b, off + 3 * k, rfl, fun i x hi => ?_⟩
    have := h (k + i) x (by rwa [List.getElem?_drop] at hi)
    rwa [show off + (k + i) * 3 = off + 3 * k + i * 3 by omega] at this
theorem LA.nil (w : World) (p : Option Addr) : LA w p [] := .inl rfl
end Go.Proofs.YtiflponlioldmaaGreatDoor

namespace Go.Proofs.YtiflponlioldmaaGreatDoor
open Go Go.RowKit Go.Deep Go.Shelf

/-- A Spec's box and an argument's behind it. -/
structure OB (w0 : World) (V F W P : Int) (x : Bool) (n : Int) (s : ByteArray) (wk : World) : Prop where
  bel : Below w0.heap.size w0 wk
  b1 : S4 wk w0.heap.size (.int .u8 V) (.int .i64 F) (.int .i64 W) (.int .i64 P)
  b2 : wk.heap[w0.heap.size + 1]? = some (.cells #[.bool x, .int .u64 n, .string s] 28 (0, 0))
theorem OB.new (w : World) (V F W P : Int) (x : Bool) (n : Int) (s : ByteArray) : OB w V F W P x n s ((w.alloc (.cells #[.int .u8 V, .int .i64 F, .int .i64 W, .int .i64 P] 25)).alloc (.cells #[.bool x, .int .u64 n, .string s] 28)) := by
  have B := SB.new w V F W P
  have A := alloc_b (w.alloc (.cells #[.int .u8 V, .int .i64 F, .int .i64 W, .int .i64 P] 25)) (.cells #[.bool x, .int .u64 n, .string s] 28)
  refine ⟨below_on B.bel A, B.box.below A, ?_⟩
  have := heap_alloc_new (w.alloc (.cells #[.int .u8 V, .int .i64 F, .int .i64 W, .int .i64 P] 25)) (.cells #[.bool x, .int .u64 n, .string s] 28)
  rwa [World.size_alloc] at this
theorem OB.on {w0 wk w' : World} {V F W P : Int} {x : Bool} {n : Int} {s : ByteArray} (h : OB w0 V F W P x n s wk) (k : Below wk.heap.size wk w') : OB w0 V F W P x n s w' := by
  have hl : w0.heap.size + 1 < wk.heap.size := by
    rcases Nat.lt_or_ge (w0.heap.size + 1) wk.heap.size with q | q
    · exact q
    · have := h.b2; rw [Array.getElem?_eq_none q] at this; cases this
  exact ⟨below_on h.bel k, h.b1.below k, by rw [k.block _ hl]; exact h.b2⟩
theorem OB.flat {w0 wk : World} {V F W P : Int} {x : Bool} {n : Int} {s : ByteArray} (h : OB w0 V F W P x n s wk) :
    (wk.cell? ⟨w0.heap.size, 0, none⟩ = some (.int .u8 V) ∧ wk.cell? ⟨w0.heap.size, 1, none⟩ = some (.int .i64 F) ∧ wk.cell? ⟨w0.heap.size, 2, none⟩ = some (.int .i64 W) ∧ wk.cell? ⟨w0.heap.size, 3, none⟩ = some (.int .i64 P)) ∧
    (wk.cell? ⟨w0.heap.size + 1, 0, none⟩ = some (.bool x) ∧ wk.cell? ⟨w0.heap.size + 1, 1, none⟩ = some (.int .u64 n) ∧ wk.cell? ⟨w0.heap.size + 1, 2, none⟩ = some (.string s)) := by
  refine ⟨h.b1.cells.1, ?_, ?_, ?_⟩ <;> rw [Lib.cell_of_heap h.b2] <;> rfl

/-- What One tells. -/
def OneTold (V F W P : Int) (a : Rn.Ag) (w : World) (e : Ending) (w' : World) : Prop := e = .returned (.tuple #[.string (strOfNums (Rn.oneT V F W P a)), .int .i64 (Rn.oneE V F W P a)]) ∧ Below w.heap.size w w'

theorem idx_whole {V : Int} : (0 ≤ Dr.idx [100, 105, 111, 117, 120, 88] V) ↔ (V = 100 ∨ V = 105 ∨ V = 111 ∨ V = 117 ∨ V = 120 ∨ V = 88) := by
  constructor
  · intro h
    iterate 6 (rcases Dr.idx_cons h with h | h; · omega)
    simp [Dr.idx] at h
  · rintro (rfl | rfl | rfl | rfl | rfl | rfl) <;> decide

set_option maxRecDepth 100000 in
set_option maxHeartbeats 2000000 in
theorem one_any (V F W P : Int) (a : Rn.Ag) (w : World) (hT : Tab w) (v0 : 0 ≤ V) (v1 : V < 256) (ha : AgW a) :
    Calls Tryz.prog 22 #[.agg #[.int .u8 V, .int .i64 F, .int .i64 W, .int .i64 P], .agg #[.bool a.x, .int .u64 a.n, .string (strOfNums a.s)]] w fun e w' => OneTold V F W P a w e w' := by
  have CK := hid (fun wk => rcheck_any V F W P wk v0 v1)
  have B0 := hid (OB.new w V F W P a.x a.n (strOfNums a.s))
  by_cases hE : (if Dr.idx Dr.verbs V < 0 then 140 else Wh.chk F W P) ≠ 0
  · -- the Spec is refused
    have G : Hid (∀ w', Below w.heap.size w w' → OneTold V F W P a w (.returned (.tuple #[.string ⟨#[]⟩, .int .i64 (if Dr.idx Dr.verbs V < 0 then 140 else Wh.chk F W P)])) w') := by
      intro w' k
      have e : Rn.oneE V F W P a = (if Dr.idx Dr.verbs V < 0 then 140 else Wh.chk F W P) := by
        rw [Rn.oneE]
        split
        · rfl
        · rename_i q; rw [if_neg q] at hE; rw [if_pos hE]
      exact ⟨by rw [Rn.oneT, e, if_pos hE]; rfl, k⟩
    generalize (if Dr.idx Dr.verbs V < 0 then 140 else Wh.chk F W P) = E at *
    have n1 : (E == 0) = false := by simpa using hE
    have n2 : (E != 0) = true := by simpa using hE
    obtain ⟨ax, an, as_⟩ := a
    simp only at B0 ⊢
    generalize strOfNums as_ = sa at *
    clear v0 v1 ha hT hE
    go_enter Tryz.func22, Tryz.ntmps22
    go_wp2_with fail
    with_reducible refine (CK.out _).mono ?_
    rintro e w1 ⟨rfl, b1⟩
    have R := hid (G.out _ (B0.out.on b1).bel)
    clear b1 B0 CK G
    go_wp2_with fail
    go_ret2
    exact R.out
  · have hE0 : (if Dr.idx Dr.verbs V < 0 then 140 else Wh.chk F W P) = 0 := by simpa using hE
    have hv : ¬ Dr.idx Dr.verbs V < 0 := fun q => by rw [if_pos q] at hE0; omega
    have hc : Wh.chk F W P = 0 := by rw [if_neg hv] at hE0; exact hE0
    rw [hE0] at CK
    clear hE hE0
    have TK := hid (fun wk => takes_any V a.x a.n (strOfNums a.s) wk)
    have EK : Rn.oneE V F W P a = if V ≠ 99 ∧ a.x ≠ decide (V = 115) then 161 else if V = 115 then Wh.texE V F W P a.s else if V = 99 ∧ a.x = false ∧ Ie.fnt a.n = false then 5 else 0 := by
      rw [Rn.oneE, if_neg hv, if_neg (by rw [hc]; decide)]
    by_cases ht : V ≠ 99 ∧ a.x ≠ decide (V = 115)
    · have t0 : (decide (V = 99) || (a.x == decide (V = 115))) = false := by rw [decide_eq_false ht.1, Bool.false_or]; simpa using ht.2
      rw [t0] at TK
      rw [if_pos ht] at EK
      have G : Hid (∀ w', Below w.heap.size w w' → OneTold V F W P a w (.returned (.tuple #[.string ⟨#[]⟩, .int .i64 161])) w') := fun w' k => ⟨by rw [Rn.oneT, EK, if_pos (by decide)]; rfl, k⟩
      obtain ⟨ax, an, as_⟩ := a
      simp only at B0 TK ⊢
      generalize strOfNums as_ = sa at *
      clear v0 v1 ha hT ht t0 hv hc EK
      go_enter Tryz.func22, Tryz.ntmps22
      go_wp2_with fail
      with_reducible refine (CK.out _).mono ?_
      rintro e w1 ⟨rfl, b1⟩
      have B1 := hid (B0.out.on b1)
      clear b1 B0 CK
      obtain ⟨⟨c0, c1, c2, c3⟩, ⟨d0, d1, d2⟩⟩ := B1.out.flat
      go_wp2_with fail
      with_reducible refine (TK.out _).mono ?_
      rintro e w2 ⟨rfl, b2⟩
      have R := hid (G.out _ (B1.out.on b2).bel)
      clear b2 B1 TK G c0 c1 c2 c3 d0 d1 d2
      go_wp2_with fail
      go_ret2
      exact R.out
    · have t0 : (decide (V = 99) || (a.x == decide (V = 115))) = true := by
        by_cases q : V = 99
        · rw [decide_eq_true q, Bool.true_or]
        · rw [decide_eq_false q, Bool.false_or]
          by_cases z : a.x = decide (V = 115)
          · simpa using z
          · exact absurd ⟨q, z⟩ ht
      rw [t0] at TK
      rw [if_neg ht] at EK
      by_cases h5 : V = 115
      · -- a text
        rw [if_pos h5] at EK
        have TX : Hid (∀ wk, Calls Tryz.prog 51 #[.agg #[.int .u8 V, .int .i64 F, .int .i64 W, .int .i64 P], .string (strOfNums a.s)] wk fun e w' => e = .returned (.tuple #[.string (strOfNums (Rn.oneT V F W P a)), .int .i64 (Rn.oneE V F W P a)]) ∧ Below wk.heap.size wk w') := by
          intro wk
          refine (text_any V F W P a.s wk v0 v1 ha.1 (by have := ha.2.2; omega)).mono ?_
          rintro e w' ⟨rfl, k⟩
          refine ⟨?_, k⟩
          rw [EK, Rn.oneT, EK, if_pos h5]
          by_cases z : Wh.texE V F W P a.s ≠ 0
          · rw [if_pos z, Wh.tex, if_neg z]
          · rw [if_neg z]
        have G : Hid (∀ w', Below w.heap.size w w' → OneTold V F W P a w (.returned (.tuple #[.string (strOfNums (Rn.oneT V F W P a)), .int .i64 (Rn.oneE V F W P a)])) w') := fun w' k => ⟨rfl, k⟩
        generalize Rn.oneT V F W P a = T at *
        generalize Rn.oneE V F W P a = E at *
        obtain ⟨ax, an, as_⟩ := a
        simp only at B0 TK TX ⊢
        generalize strOfNums as_ = sa at *
        subst h5
        clear v0 v1 ha hT ht t0 hv hc EK
        go_enter Tryz.func22, Tryz.ntmps22
        go_wp2_with fail
        with_reducible refine (CK.out _).mono ?_
        rintro e w1 ⟨rfl, b1⟩
        have B1 := hid (B0.out.on b1)
        clear b1 B0 CK
        obtain ⟨⟨c0, c1, c2, c3⟩, ⟨d0, d1, d2⟩⟩ := B1.out.flat
        go_wp2_with fail
        with_reducible refine (TK.out _).mono ?_
        rintro e w2 ⟨rfl, b2⟩
        have B2 := hid (B1.out.on b2)
        clear b2 B1 TK c0 c1 c2 c3 d0 d1 d2
        obtain ⟨⟨c0, c1, c2, c3⟩, ⟨d0, d1, d2⟩⟩ := B2.out.flat
        go_wp2_with fail
        with_reducible refine (TX.out _).mono ?_
        rintro e w3 ⟨rfl, b3⟩
        have R := hid (G.out _ (B2.out.on b3).bel)
        clear b3 B2 TX G c0 c1 c2 c3 d0 d1 d2
        go_wp2_with fail
        go_ret2
        exact R.out
      · rw [if_neg h5] at EK
        have n5 : (V == 115) = false := by simpa using h5
        by_cases h9 : V = 99
        · subst h9
          by_cases hx : a.x = true
          · -- the first byte of a text
            have E0 : Rn.oneE 99 F W P a = 0 := by rw [EK, if_neg (by rw [hx]; simp)]
            have CH : Hid (∀ wk, Calls Tryz.prog 52 #[.agg #[.int .u8 99, .int .i64 F, .int .i64 W, .int .i64 P], .string (strOfNums a.s)] wk fun e w' => e = .returned (.tuple #[.string (strOfNums (Rn.oneT 99 F W P a)), .int .i64 0]) ∧ Below wk.heap.size wk w') := by
              intro wk
              refine (char_any 99 F W P a.s wk v0 v1 ha.1 (by have := ha.2.2; omega)).mono ?_
              rintro e w' ⟨rfl, k⟩
              refine ⟨?_, k⟩
              rw [Rn.oneT, E0, if_neg (by decide), if_neg (by decide), if_pos rfl, if_pos hx, show Wh.chrE 99 F W P = 0 by rw [Wh.chrE, if_pos rfl, hc]]
            have G : Hid (∀ w', Below w.heap.size w w' → OneTold 99 F W P a w (.returned (.tuple #[.string (strOfNums (Rn.oneT 99 F W P a)), .int .i64 0])) w') := fun w' k => ⟨by rw [E0], k⟩
            generalize Rn.oneT 99 F W P a = T at *
            obtain ⟨ax, an, as_⟩ := a
            simp only at B0 TK CH hx ⊢
            generalize strOfNums as_ = sa at *
            subst hx
            clear v0 v1 ha hT ht t0 hv hc EK E0 h5
            go_enter Tryz.func22, Tryz.ntmps22
            go_wp2_with fail
            with_reducible refine (CK.out _).mono ?_
            rintro e w1 ⟨rfl, b1⟩
            have B1 := hid (B0.out.on b1)
            clear b1 B0 CK
            obtain ⟨⟨c0, c1, c2, c3⟩, ⟨d0, d1, d2⟩⟩ := B1.out.flat
            go_wp2_with fail
            with_reducible refine (TK.out _).mono ?_
            rintro e w2 ⟨rfl, b2⟩
            have B2 := hid (B1.out.on b2)
            clear b2 B1 TK c0 c1 c2 c3 d0 d1 d2
            obtain ⟨⟨c0, c1, c2, c3⟩, ⟨d0, d1, d2⟩⟩ := B2.out.flat
            go_wp2_with fail
            with_reducible refine (CH.out _).mono ?_
            rintro e w3 ⟨rfl, b3⟩
            have R := hid (G.out _ (B2.out.on b3).bel)
            clear b3 B2 CH G c0 c1 c2 c3 d0 d1 d2
            go_wp2_with fail
            go_ret2
            exact R.out
          · -- the byte of a number
            have hx' : a.x = false := by simpa using hx
            have E0 : Rn.oneE 99 F W P a = Rn.chE a.n := by
              rw [EK, Rn.chE]
              by_cases z : Ie.fnt a.n = true
              · rw [if_pos z, if_neg (by rw [z]; simp)]
              · rw [if_neg z, if_pos ⟨rfl, hx', by simpa using z⟩]
            have T0 : Rn.oneT 99 F W P a = Rn.chT 99 F W P a.n := by
              rw [Rn.oneT, E0, Rn.chT, Rn.chE]
              by_cases z : Ie.fnt a.n = true
              · rw [if_pos z, if_neg (by decide), if_neg (by decide), if_pos rfl, if_neg hx, if_pos z]
              · rw [if_neg z, if_pos (by decide), if_neg z]
            have CH : Hid (∀ wk, Calls Tryz.prog 53 #[.agg #[.int .u8 99, .int .i64 F, .int .i64 W, .int .i64 P], .int .u64 a.n] wk fun e w' => e = .returned (.tuple #[.string (strOfNums (Rn.oneT 99 F W P a)), .int .i64 (Rn.oneE 99 F W P a)]) ∧ Below wk.heap.size wk w') := by
              intro wk
              rw [E0, T0]
              exact charNum_any F W P a.n wk ha.2.1.1 ha.2.1.2 hc
            have G : Hid (∀ w', Below w.heap.size w w' → OneTold 99 F W P a w (.returned (.tuple #[.string (strOfNums (Rn.oneT 99 F W P a)), .int .i64 (Rn.oneE 99 F W P a)])) w') := fun w' k => ⟨rfl, k⟩
            clear E0 T0
            generalize Rn.oneT 99 F W P a = T at *
            generalize Rn.oneE 99 F W P a = E at *
            obtain ⟨ax, an, as_⟩ := a
            simp only at B0 TK CH hx' ⊢
            generalize strOfNums as_ = sa at *
            subst hx'
            clear v0 v1 ha hT ht t0 hv hc EK h5 hx
            go_enter Tryz.func22, Tryz.ntmps22
            go_wp2_with fail
            with_reducible refine (CK.out _).mono ?_
            rintro e w1 ⟨rfl, b1⟩
            have B1 := hid (B0.out.on b1)
            clear b1 B0 CK
            obtain ⟨⟨c0, c1, c2, c3⟩, ⟨d0, d1, d2⟩⟩ := B1.out.flat
            go_wp2_with fail
            with_reducible refine (TK.out _).mono ?_
            rintro e w2 ⟨rfl, b2⟩
            have B2 := hid (B1.out.on b2)
            clear b2 B1 TK c0 c1 c2 c3 d0 d1 d2
            obtain ⟨⟨c0, c1, c2, c3⟩, ⟨d0, d1, d2⟩⟩ := B2.out.flat
            go_wp2_with fail
            with_reducible refine (CH.out _).mono ?_
            rintro e w3 ⟨rfl, b3⟩
            have R := hid (G.out _ (B2.out.on b3).bel)
            clear b3 B2 CH G c0 c1 c2 c3 d0 d1 d2
            go_wp2_with fail
            go_ret2
            exact R.out
        · have n9 : (V == 99) = false := by simpa using h9
          have E0 : Rn.oneE V F W P a = 0 := by rw [EK, if_neg (fun q => h9 q.1)]
          have IX := hid (fun wk => idx_any ⟨#[100, 105, 111, 117, 120, 88]⟩ [100, 105, 111, 117, 120, 88] V wk rfl v0 v1)
          have G : Hid (∀ w', Below w.heap.size w w' → OneTold V F W P a w (.returned (.tuple #[.string (strOfNums (Rn.oneT V F W P a)), .int .i64 0])) w') := fun w' k => ⟨by rw [E0], k⟩
          by_cases hw : V = 100 ∨ V = 105 ∨ V = 111 ∨ V = 117 ∨ V = 120 ∨ V = 88
          · have ix := idx_whole.2 hw
            have WP : Hid (∀ wk, Calls Tryz.prog 55 #[.agg #[.int .u8 V, .int .i64 F, .int .i64 W, .int .i64 P], .int .u64 a.n] wk fun e w' => e = .returned (.tuple #[.string (strOfNums (Rn.oneT V F W P a)), .int .i64 0]) ∧ Below wk.heap.size wk w') := by
              intro wk
              have T0 : Rn.oneT V F W P a = Rn.whT V F W P a.n := by
                rw [Rn.oneT, E0, if_neg (by decide), if_neg h5, if_neg h9, Rn.whT]
                by_cases z : V = 100 ∨ V = 105
                · rw [if_pos z, if_pos z]
                · rw [if_neg z, if_neg z, if_pos (by omega)]
              rw [T0]
              exact wholePart_any V F W P a.n wk v0 v1 ha.2.1.1 ha.2.1.2 hc hw
            generalize Rn.oneT V F W P a = T at *
            generalize Dr.idx [100, 105, 111, 117, 120, 88] V = I at *
            obtain ⟨ax, an, as_⟩ := a
            simp only at B0 TK WP ⊢
            generalize strOfNums as_ = sa at *
            clear v0 v1 ha hT ht t0 hv hc EK h5 h9 hw E0
            go_enter Tryz.func22, Tryz.ntmps22
            go_wp2_with fail
            with_reducible refine (CK.out _).mono ?_
            rintro e w1 ⟨rfl, b1⟩
            have B1 := hid (B0.out.on b1)
            clear b1 B0 CK
            obtain ⟨⟨c0, c1, c2, c3⟩, ⟨d0, d1, d2⟩⟩ := B1.out.flat
            go_wp2_with fail
            with_reducible refine (TK.out _).mono ?_
            rintro e w2 ⟨rfl, b2⟩
            have B2 := hid (B1.out.on b2)
            clear b2 B1 TK c0 c1 c2 c3 d0 d1 d2
            obtain ⟨⟨c0, c1, c2, c3⟩, ⟨d0, d1, d2⟩⟩ := B2.out.flat
            go_wp2_with (go_at_call 54; refine (IX.out _).mono ?_; rintro e w4 ⟨rfl, rfl⟩)
            with_reducible refine (WP.out _).mono ?_
            rintro e w3 ⟨rfl, b3⟩
            have R := hid (G.out _ (B2.out.on b3).bel)
            clear b3 B2 WP G c0 c1 c2 c3 d0 d1 d2
            go_wp2_with fail
            go_ret2
            exact R.out
          · have ix : ¬ 0 ≤ Dr.idx [100, 105, 111, 117, 120, 88] V := fun q => hw (idx_whole.1 q)
            have hok : Po.okV V = true := by
              have := Dr.verb_cases (c := V) (by omega)
              simp only [Po.okV, decide_eq_true_eq]; omega
            have RE : Hid (∀ wk, Tab wk → Calls Tryz.prog 56 #[.agg #[.int .u8 V, .int .i64 F, .int .i64 W, .int .i64 P], .int .u64 a.n] wk fun e w' => e = .returned (.tuple #[.string (strOfNums (Rn.oneT V F W P a)), .int .i64 0]) ∧ Below wk.heap.size wk w') := by
              intro wk k
              have T0 : Rn.oneT V F W P a = Po.ren V F W P a.n := by
                rw [Rn.oneT, E0, if_neg (by decide), if_neg h5, if_neg h9, if_neg (by omega), if_neg (by omega)]
              rw [T0]
              refine (render_any V F W P a.n wk k v0 v1 ha.2.1.1 ha.2.1.2).mono ?_
              rintro e w' ⟨rfl, b⟩
              exact ⟨by rw [Po.renE, if_pos hok, hc], b⟩
            have TB : Hid (∀ wk, Below w.heap.size w wk → Tab wk) := fun wk k => hT.below k
            generalize Rn.oneT V F W P a = T at *
            generalize Dr.idx [100, 105, 111, 117, 120, 88] V = I at *
            obtain ⟨ax, an, as_⟩ := a
            simp only at B0 TK RE ⊢
            generalize strOfNums as_ = sa at *
            clear v0 v1 ha hT ht t0 hv hc EK h5 h9 hw E0 hok
            go_enter Tryz.func22, Tryz.ntmps22
            go_wp2_with fail
            with_reducible refine (CK.out _).mono ?_
            rintro e w1 ⟨rfl, b1⟩
            have B1 := hid (B0.out.on b1)
            clear b1 B0 CK
            obtain ⟨⟨c0, c1, c2, c3⟩, ⟨d0, d1, d2⟩⟩ := B1.out.flat
            go_wp2_with fail
            with_reducible refine (TK.out _).mono ?_
            rintro e w2 ⟨rfl, b2⟩
            have B2 := hid (B1.out.on b2)
            have T2 := hid (TB.out _ B2.out.bel)
            clear b2 B1 TK c0 c1 c2 c3 d0 d1 d2 TB
            obtain ⟨⟨c0, c1, c2, c3⟩, ⟨d0, d1, d2⟩⟩ := B2.out.flat
            go_wp2_with (go_at_call 54; refine (IX.out _).mono ?_; rintro e w4 ⟨rfl, rfl⟩)
            with_reducible refine (RE.out _ T2.out).mono ?_
            rintro e w3 ⟨rfl, b3⟩
            have R := hid (G.out _ (B2.out.on b3).bel)
            clear b3 B2 RE G c0 c1 c2 c3 d0 d1 d2 T2
            go_wp2_with fail
            go_ret2
            exact R.out
end Go.Proofs.YtiflponlioldmaaGreatDoor

namespace Go.Proofs.YtiflponlioldmaaGreatDoor
open Go Go.RowKit Go.Deep Go.Shelf

theorem nums_app (a b : List Int) : strOfNums (a ++ b) = strOfNums a ++ strOfNums b := by
  apply ByteArray.ext
  simp [strOfNums, ByteArray.data_append]
theorem cells_app (a b : List Int) : Lib.strCells (strOfNums (a ++ b)) = Lib.strCells (strOfNums a) ++ Lib.strCells (strOfNums b) := by
  rw [nums_app]; simp [Lib.strCells, ByteArray.data_append]

/-- The writer in block b, p what the Builder's 'addr' holds. -/
def WrAt (B b : Nat) (A p : Value) (zs : List Int) (w : World) : Prop :=
  B ≤ b ∧ ∃ v, w.heap[b]? = some (.cells #[A, p, v] 83 (0, 0)) ∧ w.ownsRow B 5 1 v zs.length (Lib.strCells (strOfNums zs)) ∧ v.ownBlock ≠ some b
def IsW (B b : Nat) (A : Value) (zs : List Int) (w : World) : Prop := WrAt B b A (.pointer none) zs w ∨ WrAt B b A (.pointer (some ⟨b, 1, none⟩)) zs w
theorem wr_lt {B b : Nat} {A p : Value} {zs : List Int} {w : World} (h : WrAt B b A p zs w) : b < w.heap.size := by
  obtain ⟨_, v, hb, _⟩ := h
  rcases Nat.lt_or_ge b w.heap.size with h' | h'
  · exact h'
  · simp [Array.getElem?_eq_none h'] at hb
theorem IsW.any {B b : Nat} {A : Value} {zs : List Int} {w : World} (h : IsW B b A zs w) : ∃ p, WrAt B b A p zs w := by
  rcases h with h | h
  · exact ⟨_, h⟩
  · exact ⟨_, h⟩
theorem IsW.lt {B b : Nat} {A : Value} {zs : List Int} {w : World} (h : IsW B b A zs w) : b < w.heap.size := by
  obtain ⟨p, h⟩ := h.any
  exact wr_lt h
theorem WrAt.below {B b : Nat} {A p : Value} {zs : List Int} {w w' : World} (h : WrAt B b A p zs w) (k : Below w.heap.size w w') : WrAt B b A p zs w' := by
  have hl := wr_lt h
  obtain ⟨h1, v, h2, h3, h4⟩ := h
  exact ⟨h1, v, by rw [k.block b hl]; exact h2, World.ownsRow.kept (row := none) h3 ⟨k.os, k.tape, k.output, k.size, fun j hj _ => k.block j hj⟩ (by cases h : Value.ownBlock v <;> simp), h4⟩
theorem IsW.below {B b : Nat} {A : Value} {zs : List Int} {w w' : World} (h : IsW B b A zs w) (k : Below w.heap.size w w') : IsW B b A zs w' := by
  rcases h with h | h
  · exact .inl (h.below k)
  · exact .inr (h.below k)
theorem IsW.cell0 {B b : Nat} {A : Value} {zs : List Int} {w : World} (h : IsW B b A zs w) : w.cell? ⟨b, 0, none⟩ = some A ∧ w.frozen? ⟨b, 0, none⟩ = false := by
  obtain ⟨p, _, v, hb, _⟩ := h.any
  exact ⟨by rw [Lib.cell_of_heap hb]; rfl, Lib.frozen_of_heap hb 0⟩
theorem WrAt.set0 {B b : Nat} {A p : Value} {zs : List Int} {w : World} (h : WrAt B b A p zs w) (A' : Value) : WrAt B b A' p zs (w.setCell ⟨b, 0, none⟩ A') := by
  obtain ⟨h1, v, h2, h3, h4⟩ := h
  refine ⟨h1, v, by simp [World.setCell, Array.getElem?_modify, h2], ?_, h4⟩
  exact h3.kept (row := some b) ⟨rfl, rfl, rfl, by simp [World.setCell], fun k _ hk => Below.heap_setCell _ _ _ _ (fun e => hk (by simp [e]))⟩ (Or.inr h4)
theorem IsW.set0 {B b : Nat} {A : Value} {zs : List Int} {w : World} (h : IsW B b A zs w) (A' : Value) : IsW B b A' zs (w.setCell ⟨b, 0, none⟩ A') := by
  rcases h with h | h
  · exact .inl (h.set0 A')
  · exact .inr (h.set0 A')
theorem IsW.new (w : World) (A : Value) : IsW w.heap.size w.heap.size A [] (w.alloc (.cells #[A, .pointer none, .slice none 0 0] 83)) :=
  .inl ⟨Nat.le_refl _, .slice none 0 0, heap_alloc_new w _, World.ownsRow_nil _ _ _ _, by simp [Value.ownBlock]⟩
theorem IsW.mono {B B' b : Nat} {A : Value} {zs : List Int} {w : World} (h : IsW B b A zs w) (hb : B' ≤ B) : IsW B' b A zs w := by
  have key : ∀ p, WrAt B b A p zs w → WrAt B' b A p zs w := by
    rintro p ⟨h1, v, h2, ⟨h3, h5⟩, h4⟩
    refine ⟨by omega, v, h2, ⟨h3, ?_⟩, h4⟩
    rcases h5 with q | ⟨g, cap, cur, e1, e2, q⟩
    · exact .inl q
    · exact .inr ⟨g, cap, cur, e1, by omega, q⟩
  rcases h with h | h
  · exact .inl (key _ h)
  · exact .inr (key _ h)

theorem wsize : (Tryz.prog.info? 81).map (·.size) = some 2 := by kernel_rfl
theorem wlies : liesAt Tryz.prog Tryz.prog.depth 83 (3 / Tryz.prog.cellsOf 83) 1 81 1 = true := by kernel_rfl

set_option maxHeartbeats 1000000 in
set_option maxRecDepth 100000 in
theorem wcopy_used (b : Nat) (w : World) (h0 : w.cell? ⟨b, 1, none⟩ = some (.pointer (some ⟨b, 1, none⟩))) :
    Calls Tryz.prog 93 #[.pointer (some ⟨b, 1, none⟩)] w fun e w' => e = .returned (.tuple #[]) ∧ w' = w := by
  obtain ⟨j, hj, _⟩ := Option.map_eq_some_iff.1 wsize
  go_enter Tryz.func93, Tryz.ntmps93
  go_wp2
  rw [Lib.run_neq_ptr_same w _ Tryz.underlying79 hj]
  go_wp2
  go_end0
  exact ⟨rfl, rfl⟩

set_option maxHeartbeats 1000000 in
set_option maxRecDepth 100000 in
theorem wcopy_fresh (b : Nat) (w : World) (h0 : w.cell? ⟨b, 1, none⟩ = some (.pointer none)) (hsh : w.shape? b = some (83, 3)) (hfz : w.frozen? ⟨b, 1, none⟩ = false) :
    Calls Tryz.prog 93 #[.pointer (some ⟨b, 1, none⟩)] w fun e w' => e = .returned (.tuple #[]) ∧ w' = w.setCell ⟨b, 1, none⟩ (.pointer (some ⟨b, 1, none⟩)) := by
  obtain ⟨j, hj, hjs⟩ := Option.map_eq_some_iff.1 wsize
  go_enter Tryz.func93, Tryz.ntmps93
  go_wp2
  rw [Lib.run_to_unsafe w ⟨b, 1, none⟩ Tryz.underlying79 Tryz.underlying176 hj (by rw [hjs]; decide) hsh (show 1 < 3 by decide)]
  simp only [Result.andThen]
  rw [Oper.upon_value]
  go_wp2
  rw [run_callFunc_extern Tryz.func143 (by kernel_rfl) (by kernel_rfl) (by kernel_rfl) (e := Extern.AbiNoEscape.same) (by kernel_rfl)]
  rw [Lib.run_noEscape]
  simp only [Result.andThen]
  rw [Oper.upon_value]
  go_wp2
  rw [Lib.run_from_unsafe w ⟨b, 1, none⟩ Tryz.underlying176 Tryz.underlying79 hj hsh wlies]
  simp only [Result.andThen]
  rw [Oper.upon_value]
  go_wp2
  go_end0
  exact ⟨rfl, rfl⟩

theorem wcopy_any (B b : Nat) (A : Value) (zs : List Int) (w : World) (h : IsW B b A zs w) :
    Calls Tryz.prog 93 #[.pointer (some ⟨b, 1, none⟩)] w fun e w' => e = .returned (.tuple #[]) ∧ WrAt B b A (.pointer (some ⟨b, 1, none⟩)) zs w' ∧ Below B w w' := by
  rcases h with h | h
  · obtain ⟨hB, v, hb, hown, hne⟩ := h
    refine (wcopy_fresh b w (by rw [Lib.cell_of_heap hb]; rfl) (by simp [World.shape?, hb]) (Lib.frozen_of_heap hb 1)).mono ?_
    rintro e w' ⟨rfl, rfl⟩
    refine ⟨rfl, ⟨hB, v, by simp [World.setCell, Array.getElem?_modify, hb], ?_, hne⟩, (Below.refl B w).setCell (p := ⟨b, 1, none⟩) hB _⟩
    exact hown.kept (row := some b) ⟨rfl, rfl, rfl, by simp [World.setCell], fun k _ hk => Below.heap_setCell _ _ _ _ (fun e => hk (by simp [e]))⟩ (Or.inr hne)
  · obtain ⟨hB, v, hb, hown, hne⟩ := h
    refine (wcopy_used b w (by rw [Lib.cell_of_heap hb]; rfl)).mono ?_
    rintro e w' ⟨rfl, rfl⟩
    exact ⟨rfl, ⟨hB, v, hb, hown, hne⟩, Below.refl B _⟩

set_option maxHeartbeats 1000000 in
set_option maxRecDepth 100000 in
theorem wlen_any (B b : Nat) (A : Value) (zs : List Int) (w : World) (h : IsW B b A zs w) :
    Calls Tryz.prog 47 #[.pointer (some ⟨b, 1, none⟩)] w fun e w' => e = .returned (.int .i64 (zs.length : Int)) ∧ w' = w := by
  obtain ⟨p, hB, v, hbk, hown, hne⟩ := h.any
  obtain ⟨ao, cap, rfl⟩ : ∃ ao cap, v = .slice ao zs.length cap := by
    rcases hown.2 with ⟨hv, h0⟩ | ⟨g, cap, cur, hv, _⟩
    · exact ⟨none, 0, by rw [hv, h0]⟩
    · exact ⟨_, _, hv⟩
  have c1 : w.cell? ⟨b, 2, none⟩ = some (.slice ao zs.length cap) := by rw [Lib.cell_of_heap hbk]; rfl
  clear hown hbk hne h
  go_enter Tryz.func47, Tryz.ntmps47
  go_wp2
  go_ret
  exact ⟨rfl, rfl⟩

set_option maxHeartbeats 2000000 in
set_option maxRecDepth 100000 in
theorem wwrite_any (B b : Nat) (A : Value) (zs xs : List Int) (w : World) (h : IsW B b A zs w) (hl : zs.length + xs.length ≤ 16777216) (hBw : B ≤ w.heap.size) :
    Calls Tryz.prog 48 #[.pointer (some ⟨b, 1, none⟩), .string (strOfNums xs)] w fun e w' => e = .returned (.tuple #[.int .i64 (xs.length : Int), .nilIface]) ∧ IsW B b A (zs ++ xs) w' ∧ Below B w w' := by
  obtain ⟨i0, hi, hz⟩ := Option.map_eq_some_iff.1 (show (Tryz.prog.info? 5).map (fun i => (i.zero, i.size, i.bytes)) = some (some (.int .u8 0), 1, 1) by kernel_rfl)
  simp only [Prod.mk.injEq] at hz
  obtain ⟨hz0, hz1, hz2⟩ := hz
  have sx := strOfNums_size xs
  go_enter Tryz.func48, Tryz.ntmps48
  go_wp2_with (go_at_call 93; refine (wcopy_any B b A zs _ h).mono ?_)
  rintro e w1 ⟨rfl, h1, hb1⟩
  obtain ⟨hB, v, hbk, hown, hne⟩ := h1
  have c0 : w1.cell? ⟨b, 1, none⟩ = some (.pointer (some ⟨b, 1, none⟩)) := by rw [Lib.cell_of_heap hbk]; rfl
  have c1 : w1.cell? ⟨b, 2, none⟩ = some v := by rw [Lib.cell_of_heap hbk]; rfl
  go_wp2_with (at_builtin; refine Lib.wpList_append_own_string _ rfl _ _ 70 9 rfl B 5 i0 Tryz.underlying70 Tryz.underlying9 hi hz0 hz1 hz2 _ _ _ rfl hown (strOfNums xs) rfl ?c3 ?c4 ?c5 ?_)
  case c3 => unfold maxLen; omega
  case c4 => omega
  case c5 => have := hb1.size; omega
  intro v' w2 hown' hgrow _
  have hlt : b < w1.heap.size := by
    rcases Nat.lt_or_ge b w1.heap.size with h' | h'
    · exact h'
    · simp [Array.getElem?_eq_none h'] at hbk
  have hb2 : w2.heap[b]? = some (.cells #[A, .pointer (some ⟨b, 1, none⟩), v] 83 (0, 0)) := by
    rw [hgrow.block b hlt (fun e => hne e.symm)]
    exact hbk
  have d1 : w2.cell? ⟨b, 2, none⟩ = some v := by rw [Lib.cell_of_heap hb2]; rfl
  have f1 : w2.frozen? ⟨b, 2, none⟩ = false := Lib.frozen_of_heap hb2 2
  obtain ⟨ao, n', cap, rfl⟩ : ∃ ao n' cap, v' = .slice ao n' cap := by
    rcases hown'.2 with ⟨hv, _⟩ | ⟨g, cap, cur, hv, _⟩
    · exact ⟨_, _, _, hv⟩
    · exact ⟨_, _, _, hv⟩
  go_wp2
  go_ret2
  refine ⟨rfl, .inr ?_, ?_⟩
  · have hne' := Lib.ownBlock_ne hown' hb2 (by decide)
    have hown2 : w2.ownsRow B 5 1 (.slice ao n' cap) (zs ++ xs).length (Lib.strCells (strOfNums (zs ++ xs))) := by
      rw [cells_app, List.length_append]
      exact hown'
    refine ⟨hB, _, by simp [World.setCell, Array.getElem?_modify, hb2], ?_, hne'⟩
    exact hown2.kept (row := some b) ⟨rfl, rfl, rfl, by simp [World.setCell], fun k _ hk => Below.heap_setCell _ _ _ _ (fun e => hk (by simp [e]))⟩ (Or.inr hne')
  · exact (hb1.grown hgrow (by have := hb1.size; omega) (fun k hk => (hown.lt k hk).1)).setCell (p := ⟨b, 2, none⟩) hB _
set_option maxHeartbeats 2000000 in
set_option maxRecDepth 100000 in
theorem wstr_row (B b : Nat) (A : Value) (x : Int) (xs : List Int) (w : World) (h : IsW B b A (x :: xs) w) :
    Calls Tryz.prog 42 #[.pointer (some ⟨b, 1, none⟩)] w fun e w' => e = .returned (.string (strOfNums (x :: xs))) ∧ Below B w w' := by
  obtain ⟨p, hB, v, hbk, hown, hne⟩ := h.any
  clear h
  have l8 : (strOfNums (x :: xs)).data.toList.length = (x :: xs).length := by rw [strOfNums_data, List.length_map]
  have l9 : (strOfNums (x :: xs)).data.toList ≠ [] := by rw [strOfNums_data]; simp
  have e8 : (⟨(strOfNums (x :: xs)).data.toList.toArray⟩ : ByteArray) = strOfNums (x :: xs) := by simp
  have sc : Lib.strCells (strOfNums (x :: xs)) = Lib.byteCells (strOfNums (x :: xs)).data.toList := rfl
  rw [sc, ← l8] at hown
  rw [← e8]
  generalize (strOfNums (x :: xs)).data.toList = l at *
  clear l8 e8 sc
  have hl0 : l.length ≠ 0 := by simpa using l9
  obtain ⟨g, cap, cur, rfl, hbg, hg, hnc, hcm, hcs, htake⟩ : ∃ g cap cur, v = .slice (some ⟨g, 0, none⟩) l.length cap ∧ B ≤ g ∧ w.heap[g]? = some (.cells cur 5 (0, 0)) ∧ l.length ≤ cap ∧ cap ≤ maxLen ∧ cur.size = cap * 1 ∧ cur.toList.take (l.length * 1) = Lib.byteCells l := by
    rcases hown.2 with ⟨_, hz⟩ | ⟨g, cap, cur, hv, r⟩
    · exact absurd hz hl0
    · exact ⟨g, cap, cur, hv, r⟩
  have c1 : w.drew.cell? ⟨b, 2, none⟩ = some (.slice (some ⟨g, 0, none⟩) l.length cap) := by
    have : w.drew.heap[b]? = some (.cells #[A, p, .slice (some ⟨g, 0, none⟩) l.length cap] 83 (0, 0)) := hbk
    rw [Lib.cell_of_heap this]; rfl
  have hSD : (Builtin.unsafeSliceData_ #[70] 129 #[.slice (some ⟨g, 0, none⟩) l.length cap]).run Tryz.prog w.drew = .ok (.pointer (some ⟨g, 0, none⟩)) w.drew :=
    Lib.run_unsafeSliceData_row _ _ _ _ _ _ (by omega)
  have hUS : (Builtin.unsafeString_ #[129, 3] 9 #[.pointer (some ⟨g, 0, none⟩), .int .i64 l.length]).run Tryz.prog w.drew = .ok (.string ⟨l.toArray⟩) (w.drew.freeze ⟨g, 0, none⟩ l.length) := by
    refine Lib.run_unsafeString_row w.drew 129 3 9 5 Tryz.underlying129 (by kernel_rfl) g cur.size (by have hg' : w.drew.heap[g]? = some (.cells cur 5 (0, 0)) := hg; simp [World.shape?, hg']) l l9 (by omega) (by unfold maxLen at hcm; omega) ?_
    intro j x hx
    have := hown.cells (g := g) rfl j (.int .u8 x.toNat) (by simp [Lib.byteCells, hx])
    exact this
  clear hown htake hcs hcm hnc hg hbk hne hl0 l9
  go_enter Tryz.func42, Tryz.ntmps42
  go_wp2
  go_region
  all_goals (go_wp2; go_ret; exact ⟨rfl, Lib.below_freeze (Below.drew (Below.refl B w)) (p := ⟨g, 0, none⟩) hbg _⟩)

set_option maxHeartbeats 2000000 in
set_option maxRecDepth 100000 in
theorem wstr_nil (B b : Nat) (A : Value) (w : World) (h : IsW B b A [] w) (hBw : B ≤ w.heap.size) :
    Calls Tryz.prog 42 #[.pointer (some ⟨b, 1, none⟩)] w fun e w' => e = .returned (.string ⟨#[]⟩) ∧ Below B w w' := by
  obtain ⟨p, hB, v, hbk, hown, hne⟩ := h.any
  have hlt := h.lt
  clear h
  have hUS : ∀ (W : World) (q : Option Addr), (Builtin.unsafeString_ #[129, 3] 9 #[.pointer q, .int .i64 0]).run Tryz.prog W = .ok (.string .empty) W := fun W q => Lib.run_unsafeString_none W _ _ _ q
  rcases hown.2 with ⟨rfl, _⟩ | ⟨g, cap, cur, rfl, hbg, hg, _, _, _, _⟩
  · have c1 : w.drew.cell? ⟨b, 2, none⟩ = some (.slice none 0 0) := by
      have : w.drew.heap[b]? = some (.cells #[A, p, .slice none 0 0] 83 (0, 0)) := hbk
      rw [Lib.cell_of_heap this]; rfl
    have hSD : (Builtin.unsafeSliceData_ #[70] 129 #[.slice none 0 0]).run Tryz.prog w.drew = .ok (.pointer none) w.drew := rfl
    clear hown hbk hne
    go_enter Tryz.func42, Tryz.ntmps42
    go_wp2
    go_region
    all_goals (go_wp2; go_ret; exact ⟨rfl, Below.drew (Below.refl B w)⟩)
  · by_cases hc0 : cap = 0
    · subst hc0
      have c1 : w.drew.cell? ⟨b, 2, none⟩ = some (.slice (some ⟨g, 0, none⟩) 0 0) := by
        have : w.drew.heap[b]? = some (.cells #[A, p, .slice (some ⟨g, 0, none⟩) 0 0] 83 (0, 0)) := hbk
        rw [Lib.cell_of_heap this]; rfl
      have hSD : (Builtin.unsafeSliceData_ #[70] 129 #[.slice (some ⟨g, 0, none⟩) 0 0]).run Tryz.prog w.drew = .ok (.pointer (some ⟨w.drew.heap.size, 0, none⟩)) (w.drew.alloc (.view ⟨g, 0, none⟩ 5)) :=
        Lib.run_unsafeSliceData_zero w.drew _ _ 5 Tryz.underlying129 ⟨g, 0, none⟩ 0 (5, cur.size) (by have hg' : w.drew.heap[g]? = some (.cells cur 5 (0, 0)) := hg; simp [World.shape?, hg'])
      have c2 : (w.drew.alloc (.view ⟨g, 0, none⟩ 5)).cell? ⟨b, 2, none⟩ = some (.slice (some ⟨g, 0, none⟩) 0 0) := by
        have : (w.drew.alloc (.view ⟨g, 0, none⟩ 5)).heap[b]? = _ := (Lib.alloc_old w.drew _ b hlt).trans hbk
        rw [Lib.cell_of_heap this]; rfl
      have c3 : (w.alloc (.view ⟨g, 0, none⟩ 5)).drew.cell? ⟨b, 2, none⟩ = some (.slice (some ⟨g, 0, none⟩) 0 0) := c2
      have c0 : w.cell? ⟨b, 2, none⟩ = some (.slice (some ⟨g, 0, none⟩) 0 0) := c1
      clear hown hbk hne hg
      go_enter Tryz.func42, Tryz.ntmps42
      go_wp2
      go_region
      all_goals (go_wp2; go_ret; exact ⟨rfl, (Below.drew (Below.refl B w)).alloc hBw _⟩)
    · have c1 : w.drew.cell? ⟨b, 2, none⟩ = some (.slice (some ⟨g, 0, none⟩) 0 cap) := by
        have : w.drew.heap[b]? = some (.cells #[A, p, .slice (some ⟨g, 0, none⟩) 0 cap] 83 (0, 0)) := hbk
        rw [Lib.cell_of_heap this]; rfl
      have hSD : (Builtin.unsafeSliceData_ #[70] 129 #[.slice (some ⟨g, 0, none⟩) 0 cap]).run Tryz.prog w.drew = .ok (.pointer (some ⟨g, 0, none⟩)) w.drew :=
        Lib.run_unsafeSliceData_row _ _ _ _ _ _ hc0
      clear hown hbk hne hg hc0
      go_enter Tryz.func42, Tryz.ntmps42
      go_wp2
      go_region
      all_goals (go_wp2; go_ret; exact ⟨rfl, Below.drew (Below.refl B w)⟩)

theorem wstr_any (B b : Nat) (A : Value) (zs : List Int) (w : World) (h : IsW B b A zs w) (hBw : B ≤ w.heap.size) :
    Calls Tryz.prog 42 #[.pointer (some ⟨b, 1, none⟩)] w fun e w' => e = .returned (.string (strOfNums zs)) ∧ Below B w w' := by
  cases zs with
  | nil => exact wstr_nil B b A w h hBw
  | cons x xs => exact wstr_row B b A x xs w h
end Go.Proofs.YtiflponlioldmaaGreatDoor

namespace Go.Proofs.YtiflponlioldmaaGreatDoor
open Go Go.RowKit Go.Deep Go.Shelf

/-- What a fault panics with. -/
def flt (e : Int) : List PanicEntry := [{ v := .iface 123 (.agg #[.int .i64 e]), recovered := false }]

set_option maxRecDepth 100000 in
theorem giveUp_any (e : Int) (w : World) : Calls Tryz.prog 87 #[.int .i64 e] w fun r w' => r = .panicked (flt e) ∧ w' = w := by
  go_enter Tryz.func87, Tryz.ntmps87
  go_wp2
  exact ⟨rfl, rfl, rfl⟩

set_option maxRecDepth 100000 in
theorem told_any (e : Int) (w : World) : Calls Tryz.prog 38 #[.iface 123 (.agg #[.int .i64 e])] w fun r w' => r = .returned (.int .i64 e) ∧ Below w.heap.size w w' := by
  have R := hid (alloc_b w (.cells #[.int .i64 e] 123))
  have TA : ∀ wx : World, (Instr.typeAssert (.iface 123 (.agg #[.int .i64 e])) 20 123 true).run Tryz.prog wx = .ok (.tuple #[.agg #[.int .i64 e], .bool true]) wx := fun wx => by kernel_rfl
  go_enter Tryz.func38, Tryz.ntmps38
  go_wp2_with fail
  go_ret
  exact ⟨rfl, R.out⟩

theorem blk_lt {w : World} {b : Nat} {o : Obj} (h : w.heap[b]? = some o) : b < w.heap.size := by
  rcases Nat.lt_or_ge b w.heap.size with h' | h'
  · exact h'
  · rw [Array.getElem?_eq_none h'] at h; cases h
set_option maxRecDepth 100000 in
theorem catch_panic (tb eb B : Nat) (E : Int) (s0 e0 : Value) (w : World) (hB1 : B ≤ tb) (hB2 : B ≤ eb) (hne : tb ≠ eb) (ht : w.heap[tb]? = some (.cells #[s0] 9 (0, 0))) (he : w.heap[eb]? = some (.cells #[e0] 41 (0, 0))) :
    CallsD Tryz.prog 37 #[.pointer (some ⟨tb, 0, none⟩), .pointer (some ⟨eb, 0, none⟩)] (.panicking (flt E)) w fun r u' w' => r = .returned (.tuple #[]) ∧ u' = .panicking [{ v := .iface 123 (.agg #[.int .i64 E]), recovered := true }] ∧ w'.cell? ⟨tb, 0, none⟩ = some (.string ⟨#[]⟩) ∧ w'.cell? ⟨eb, 0, none⟩ = some (.int .i64 E) ∧ Below B w w' := by
  have TO := hid (fun wk => told_any E wk)
  refine callsD_of_wpS Tryz.func37 rfl fun c₀ cs hu => ?_
  unfold flt at hu
  apply wpS_seq
  apply wpS_region
  simp [wpOpsS, go_sem, recoverD, hu, Tryz.ntmps37, Exit.thenS]
  apply wpS_seq
  apply wpS_region
  simp [wpOpsS, go_sem, Exit.thenS]
  refine wpS_cond (t := true) (by simp [Act.eval, Array.replicate]) ?_
  simp only [if_true]
  refine wpS_of_wp ?_
  have lt1 : tb < w.heap.size := blk_lt ht
  have lt2 : eb < w.heap.size := blk_lt he
  rw [show (#[Value.pointer (some ⟨tb, 0, none⟩), Value.pointer (some ⟨eb, 0, none⟩)] ++ ((((Array.replicate 6 undef).setIfInBounds 1 (Value.iface 123 (Value.agg #[Value.int IntKind.i64 E]))).setIfInBounds 0 (Value.iface 123 (Value.agg #[Value.int IntKind.i64 E]))).setIfInBounds 2 (Value.iface 123 (Value.agg #[Value.int IntKind.i64 E]))).setIfInBounds 3 (Value.bool true)) = #[Value.pointer (some ⟨tb, 0, none⟩), Value.pointer (some ⟨eb, 0, none⟩), Value.iface 123 (Value.agg #[Value.int IntKind.i64 E]), Value.iface 123 (Value.agg #[Value.int IntKind.i64 E]), Value.iface 123 (Value.agg #[Value.int IntKind.i64 E]), Value.bool true, undef, undef] from rfl]
  go_wp2_with fail
  with_reducible refine (TO.out _).mono ?_
  rintro e w1 ⟨rfl, b1⟩
  have t1 : w1.heap[tb]? = some (.cells #[s0] 9 (0, 0)) := by rw [b1.block tb lt1]; exact ht
  have e1 : w1.heap[eb]? = some (.cells #[e0] 41 (0, 0)) := by rw [b1.block eb lt2]; exact he
  have c1 : w1.cell? ⟨tb, 0, none⟩ = some s0 := by rw [Lib.cell_of_heap t1]; rfl
  have c2 : w1.cell? ⟨eb, 0, none⟩ = some e0 := by rw [Lib.cell_of_heap e1]; rfl
  have f1 := Lib.frozen_of_heap t1 0
  have f2 := Lib.frozen_of_heap e1 0
  have BB := hid ((b1.mono (by omega : B ≤ w.heap.size)).setCell (p := ⟨tb, 0, none⟩) hB1 (.string ⟨#[]⟩) |>.setCell (p := ⟨eb, 0, none⟩) hB2 (.int .i64 E))
  have K1 : Hid (((w1.setCell ⟨tb, 0, none⟩ (.string ⟨#[]⟩)).setCell ⟨eb, 0, none⟩ (.int .i64 E)).cell? ⟨tb, 0, none⟩ = some (.string ⟨#[]⟩)) := by
    show _ = _
    simp [World.cell?, World.setCell, Array.getElem?_modify, t1, Ne.symm hne]
  have K2 : Hid (((w1.setCell ⟨tb, 0, none⟩ (.string ⟨#[]⟩)).setCell ⟨eb, 0, none⟩ (.int .i64 E)).cell? ⟨eb, 0, none⟩ = some (.int .i64 E)) := by
    show _ = _
    simp [World.cell?, World.setCell, Array.getElem?_modify, e1, hne]
  clear TO b1 ht he t1 e1
  go_wp2_with fail
  exact ⟨rfl, _, rfl, _, results_none rfl _ _ _, rfl, rfl, K1.out, K2.out, BB.out⟩
set_option maxRecDepth 100000 in
theorem catch_idle (p q : Addr) (w : World) :
    CallsD Tryz.prog 37 #[.pointer (some p), .pointer (some q)] .returning w fun e u' w' => e = .returned (.tuple #[]) ∧ u' = .returning ∧ w' = w := by
  refine callsD_of_wpS Tryz.func37 rfl fun c₀ cs hu => ?_
  apply wpS_seq
  apply wpS_region
  simp [wpOpsS, go_sem, recoverD, hu, Tryz.ntmps37, Exit.thenS]
  apply wpS_seq
  apply wpS_region
  simp [wpOpsS, go_sem, Exit.thenS]
  refine wpS_cond (t := false) (by simp [Act.eval, Array.replicate]) ?_
  simp only [Bool.false_eq_true, if_false]
  refine wpS_of_wp (wp_skip ?_)
  cases c₀
  simp_all [bodyPostS, results, Tryz.results37]

/-- What has stayed, the writer, the arguments that are left. -/
structure RWS (w1 : World) (v : Value) (A : List Rn.Ag) (zs : List Int) (w : World) : Prop where
  bel : Below w1.heap.size w1 w
  av : AgV w1 v A
  isw : IsW w1.heap.size w1.heap.size v zs w
theorem RWS.on {w1 w w' : World} {v : Value} {A : List Rn.Ag} {zs : List Int} (h : RWS w1 v A zs w) (k : Below w.heap.size w w') : RWS w1 v A zs w' := ⟨below_on h.bel k, h.av, h.isw.below k⟩
theorem below_same {B : Nat} {w x : World} (h : Below B w x) (b o : Nat) (v : Value) : Below B (w.setCell ⟨b, o, none⟩ v) (x.setCell ⟨b, o, none⟩ v) := by
  refine ⟨h.os, h.tape, h.output, by simpa [World.setCell] using h.size, fun j hj => ?_⟩
  simp only [World.setCell, Array.getElem?_modify, h.block j hj]
theorem RWS.put {w1 w w' : World} {v v' : Value} {A A' : List Rn.Ag} {zs : List Int} (h : RWS w1 v A zs w) (ha : AgV w1 v' A') (k : Below w.heap.size (w.setCell ⟨w1.heap.size, 0, none⟩ v') w') : RWS w1 v' A' zs w' := by
  have s0 : (w.setCell ⟨w1.heap.size, 0, none⟩ v').heap.size = w.heap.size := by simp [World.setCell]
  have h0 : RWS w1 v' A' zs (w.setCell ⟨w1.heap.size, 0, none⟩ v') := ⟨h.bel.setCell (p := ⟨w1.heap.size, 0, none⟩) (Nat.le_refl _) _, ha, h.isw.set0 v'⟩
  exact h0.on (by rw [s0]; exact k)
theorem res3 {w : World} {n : Nat} {v0 v1 v2 u0 u1 u2 : Value} {T : TypeId} (h : w.heap[n]? = some (.cells #[v0, v1, v2] T (0, 0))) : (((w.setCell ⟨n, 0, none⟩ u0).setCell ⟨n, 1, none⟩ u1).setCell ⟨n, 2, none⟩ u2).heap[n]? = some (.cells #[u0, u1, u2] T (0, 0)) := by
  simp [World.setCell, Array.getElem?_modify, h]
end Go.Proofs.YtiflponlioldmaaGreatDoor

namespace Go.Proofs.YtiflponlioldmaaGreatDoor
open Go Go.RowKit Go.Deep Go.Shelf

/-- Of what was there one block alone has changed. -/
def Keeps (b : Nat) (w w' : World) : Prop := w.heap.size ≤ w'.heap.size ∧ ∀ j, j < w.heap.size → j ≠ b → w'.heap[j]? = w.heap[j]?
theorem Keeps.refl (b : Nat) (w : World) : Keeps b w w := ⟨Nat.le_refl _, fun _ _ _ => rfl⟩
theorem Keeps.on {b : Nat} {w w' w'' : World} (h : Keeps b w w') (k : Below w'.heap.size w' w'') : Keeps b w w'' := ⟨Nat.le_trans h.1 k.size, fun j hj hb => by rw [k.block j (by have := h.1; omega), h.2 j hj hb]⟩
theorem keeps_two (w : World) (b : Nat) (v : Value) (o1 o2 : Obj) : Keeps b w (((w.setCell ⟨b, 0, none⟩ v).alloc o1).alloc o2) := by
  have k := below_on (alloc_b (w.setCell ⟨b, 0, none⟩ v) o1) (alloc_b _ o2)
  have h : Keeps b w (w.setCell ⟨b, 0, none⟩ v) := ⟨by simp [World.setCell], fun j hj hb => by simp [World.setCell, Array.getElem?_modify, Ne.symm hb]⟩
  exact h.on k
theorem set_size (w : World) (a : Addr) (v : Value) : (w.setCell a v).heap.size = w.heap.size := by simp [World.setCell]
theorem res_two (w : World) (a : Addr) (v : Value) (o1 o2 : Obj) : (((w.setCell a v).alloc o1).alloc o2).heap[w.heap.size]? = some o1 := by
  have := heap_alloc2_old (w.setCell a v) o1 o2
  rwa [set_size] at this
theorem bel_two (w : World) (a : Addr) (v : Value) (o1 o2 : Obj) : Below w.heap.size (w.setCell a v) (((w.setCell a v).alloc o1).alloc o2) := by
  have := below_on (alloc_b (w.setCell a v) o1) (alloc_b _ o2)
  rwa [set_size] at this
set_option maxRecDepth 100000 in
set_option maxHeartbeats 1000000 in
theorem wnext_any (w1 w : World) (v : Value) (a : Rn.Ag) (A : List Rn.Ag) (zs : List Int) (h : RWS w1 v (a :: A) zs w) :
    Calls Tryz.prog 90 #[.pointer (some ⟨w1.heap.size, 0, none⟩)] w fun r w' => r = .returned (.agg #[.bool a.x, .int .u64 a.n, .string (strOfNums a.s)]) ∧ (∃ v', RWS w1 v' A zs w') ∧ Keeps w1.heap.size w w' := by
  obtain ⟨p, cap, rfl, lc, hp⟩ := h.av
  obtain ⟨pb, off, rfl, hc⟩ := hp.head
  have lb : pb < w1.heap.size := cell_lt hc.1
  obtain ⟨wc, wf⟩ := h.isw.cell0
  have wl := h.isw.lt
  have ca : A.length + 1 ≤ cap := lc
  obtain ⟨bb, hbb⟩ : ∃ bb, w1.heap.size = bb := ⟨_, rfl⟩
  have q0 : w.cell? ⟨pb, off, none⟩ = some (.bool a.x) := acell_below hc.1 h.bel lb
  have q1 : w.cell? ⟨pb, off + 1, none⟩ = some (.int .u64 a.n) := acell_below hc.2.1 h.bel lb
  have q2 : w.cell? ⟨pb, off + 2, none⟩ = some (.string (strOfNums a.s)) := acell_below hc.2.2 h.bel lb
  have H := hid h
  rw [hbb] at wc wf wl
  have lb2 : pb < w.heap.size := cell_lt q0
  clear h hc
  go_enter Tryz.func90, Tryz.ntmps90
  go_wp2_with fail
  · obtain rfl : A = [] := List.eq_nil_of_length_eq_zero (by omega)
    refine bodyPost_ret (results_cell_row rfl _ _ w.heap.size 28 _ (0, 0) _ rfl (res_two _ _ _ _ _) Tryz.underlying28 rfl (by kernel_rfl)) rfl ?_
    subst hbb
    exact ⟨rfl, ⟨_, H.out.put ⟨_, 0, rfl, Nat.le_refl _, .inl rfl⟩ (bel_two _ _ _ _ _)⟩, keeps_two _ _ _ _ _⟩
  · refine bodyPost_ret (results_cell_row rfl _ _ w.heap.size 28 _ (0, 0) _ rfl (res_two _ _ _ _ _) Tryz.underlying28 rfl (by kernel_rfl)) rfl ?_
    subst hbb
    exact ⟨rfl, ⟨_, H.out.put ⟨_, cap - 1, rfl, by omega, hp.tail⟩ (bel_two _ _ _ _ _)⟩, keeps_two _ _ _ _ _⟩

/-- A star's number, if it has one. -/
def stV (k : Int) (A : List Rn.Ag) : Int := if k = 2 then (A.getD 0 Rn.Ag.no).n else 0
def stA (k : Int) (A : List Rn.Ag) : List Rn.Ag := if k = 2 then A.drop 1 else A
set_option maxRecDepth 100000 in
theorem star_ok (w1 w : World) (v : Value) (k : Int) (A : List Rn.Ag) (zs : List Int) (h : RWS w1 v A zs w) (hk : k = 2 → 0 < A.length ∧ (A.getD 0 Rn.Ag.no).x = false) :
    Calls Tryz.prog 88 #[.pointer (some ⟨w1.heap.size, 0, none⟩), .int .i64 k] w fun r w' => r = .returned (.int .u64 (stV k A)) ∧ (∃ v', RWS w1 v' (stA k A) zs w') ∧ Keeps w1.heap.size w w' := by
  by_cases e : k = 2
  · obtain ⟨l, hx⟩ := hk e
    cases A with
    | nil => simp at l
    | cons a A =>
      rw [stV, stA, if_pos e, if_pos e, List.drop_succ_cons, List.drop_zero]
      rw [List.getD_cons_zero] at hx ⊢
      have NX := hid (wnext_any w1 w v a A zs h)
      obtain ⟨ax, an, as_⟩ := a
      simp only at hx
      subst hx
      subst e
      clear h l hk
      go_enter Tryz.func88, Tryz.ntmps88
      go_wp2_with fail
      with_reducible refine NX.out.mono ?_
      rintro r w' ⟨rfl, ⟨v', h'⟩, kp⟩
      have H := hid (h'.on (alloc_b w' (.cells #[.bool false, .int .u64 an, .string (strOfNums as_)] 28)))
      have KP := hid (kp.on (alloc_b w' (.cells #[.bool false, .int .u64 an, .string (strOfNums as_)] 28)))
      clear h' NX kp
      go_wp2_with fail
      go_ret
      exact ⟨rfl, ⟨_, H.out⟩, KP.out⟩
  · rw [stV, stA, if_neg e, if_neg e]
    have H := hid h
    have e1 : (k == 2) = false := by simpa using e
    have e2 : (k != 2) = true := by simpa using e
    clear h hk e
    go_enter Tryz.func88, Tryz.ntmps88
    go_wp2_with fail
    go_ret
    exact ⟨rfl, ⟨_, H.out⟩, Keeps.refl _ _⟩

set_option maxRecDepth 100000 in
theorem star_bad (w1 w : World) (v : Value) (A : List Rn.Ag) (zs : List Int) (h : RWS w1 v A zs w) (l : 0 < A.length) (hx : (A.getD 0 Rn.Ag.no).x = true) :
    Calls Tryz.prog 88 #[.pointer (some ⟨w1.heap.size, 0, none⟩), .int .i64 2] w fun r w' => r = .panicked (flt 161) ∧ Below w1.heap.size w1 w' := by
  cases A with
  | nil => simp at l
  | cons a A =>
    rw [List.getD_cons_zero] at hx
    have NX := hid (wnext_any w1 w v a A zs h)
    have GU := hid (fun wk => giveUp_any 161 wk)
    obtain ⟨ax, an, as_⟩ := a
    simp only at hx
    subst hx
    clear h l
    go_enter Tryz.func88, Tryz.ntmps88
    go_wp2_with fail
    with_reducible refine NX.out.mono ?_
    rintro r w' ⟨rfl, ⟨v', h'⟩, -⟩
    have H := hid (h'.on (alloc_b w' (.cells #[.bool true, .int .u64 an, .string (strOfNums as_)] 28))).bel
    clear h' NX
    go_wp2_with fail
    with_reducible refine (GU.out _).mono ?_
    rintro r w2 ⟨rfl, e2⟩
    subst e2
    exact ⟨rfl, rfl, H.out⟩

set_option maxRecDepth 100000 in
theorem write_ok (w1 w : World) (v : Value) (A : List Rn.Ag) (zs xs : List Int) (h : RWS w1 v A zs w) (hl : zs.length + xs.length ≤ 16777216) :
    Calls Tryz.prog 40 #[.pointer (some ⟨w1.heap.size, 0, none⟩), .string (strOfNums xs)] w fun r w' => r = .returned (.tuple #[]) ∧ RWS w1 v A (zs ++ xs) w' := by
  have LN := hid (wlen_any _ _ v zs w h.isw)
  have WR := hid (wwrite_any _ _ v zs xs w h.isw hl h.bel.size)
  have sx := strOfNums_size xs
  have H := hid h
  have n1 : ¬ (16777216 : Int) - (zs.length : Int) < (xs.length : Int) := by omega
  have n2 : (zs.length : Int) ≤ 16777216 := by omega
  obtain ⟨bb, hbb⟩ : ∃ bb, w1.heap.size = bb := ⟨_, rfl⟩
  rw [hbb] at LN WR ⊢
  rw [← sx] at n1
  generalize strOfNums xs = s at *
  clear h hl sx
  go_enter Tryz.func40, Tryz.ntmps40
  go_wp2_with fail
  with_reducible refine LN.out.mono ?_
  rintro r w' ⟨rfl, e⟩
  subst e
  go_wp2_with fail
  with_reducible refine WR.out.mono ?_
  rintro r w2 ⟨rfl, i, b⟩
  subst hbb
  have R : Hid (RWS w1 v A (zs ++ xs) w2) := ⟨H.out.bel.trans b, H.out.av, i⟩
  clear WR LN H i b
  go_wp2_with fail
  go_end0
  exact ⟨rfl, R.out⟩

set_option maxRecDepth 100000 in
theorem write_long (w1 w : World) (v : Value) (A : List Rn.Ag) (zs xs : List Int) (h : RWS w1 v A zs w) (hz : zs.length ≤ 16777216) (hl : 16777216 < zs.length + xs.length) :
    Calls Tryz.prog 40 #[.pointer (some ⟨w1.heap.size, 0, none⟩), .string (strOfNums xs)] w fun r w' => r = .panicked (flt 3) ∧ Below w1.heap.size w1 w' := by
  have LN := hid (wlen_any _ _ v zs w h.isw)
  have GU := hid (fun wk => giveUp_any 3 wk)
  have sx := strOfNums_size xs
  have H := hid h.bel
  have n1 : (16777216 : Int) - (zs.length : Int) < (xs.length : Int) := by omega
  have n2 : (zs.length : Int) ≤ 16777216 := by omega
  obtain ⟨bb, hbb⟩ : ∃ bb, w1.heap.size = bb := ⟨_, rfl⟩
  rw [hbb] at LN H ⊢
  rw [← sx] at n1
  generalize strOfNums xs = s at *
  clear h hl sx
  go_enter Tryz.func40, Tryz.ntmps40
  go_wp2_with fail
  with_reducible refine LN.out.mono ?_
  rintro r w' ⟨rfl, e⟩
  subst e
  go_wp2_with fail
  with_reducible refine (GU.out _).mono ?_
  rintro r w2 ⟨rfl, e2⟩
  subst e2
  exact ⟨rfl, rfl, H.out⟩
end Go.Proofs.YtiflponlioldmaaGreatDoor

namespace Go.Proofs.YtiflponlioldmaaGreatDoor
open Go Go.RowKit Go.Deep Go.Shelf

set_option maxRecDepth 100000 in
theorem cut_bad (d : Int) (w : World) (h0 : 0 ≤ d) (h1 : d < 18446744073709551616) (hf : Ie.fnt d = false) :
    Calls Tryz.prog 89 #[.int .u64 d] w fun r w' => r = .panicked (flt 6) ∧ w' = w := by
  have TI := hid (toInt_inf d w h0 h1 (fin_not.1 hf))
  have GU := hid (fun wk => giveUp_any 6 wk)
  clear hf
  go_enter Tryz.func89, Tryz.ntmps89
  go_wp2_with fail
  with_reducible refine TI.out.mono ?_
  rintro r w1 ⟨rfl, e1⟩
  subst e1
  go_wp2_with fail
  with_reducible refine (GU.out _).mono ?_
  rintro r w3 ⟨rfl, e3⟩
  subst e3
  exact ⟨rfl, rfl, rfl⟩

set_option maxRecDepth 100000 in
set_option maxHeartbeats 1000000 in
theorem cut_ok (d : Int) (w : World) (h0 : 0 ≤ d) (h1 : d < 18446744073709551616) (hf : Ie.fnt d = true) :
    Calls Tryz.prog 89 #[.int .u64 d] w fun r w' => r = .returned (.int .i64 (Rn.cutI d)) ∧ Below w.heap.size w w' := by
  have hr := fin_iff.1 hf
  obtain ⟨V0, Vb⟩ := Ie.rwhp_bd (d % 9223372036854775808) (by omega) hr
  have TI := hid (toInt_fin d w h0 h1 hr _ rfl _ rfl V0 Vb)
  have DC := hid (fun wk => decode_any d wk h0 h1)
  have CI : Rn.cutI d = min (max (if decide (9223372036854775808 ≤ d) = true then -(Ie.whp (d % 9223372036854775808)) else Ie.whp (d % 9223372036854775808)) (-4097)) 4097 := by
    rw [Rn.cutI, Rn.wpt]
    by_cases h : 9223372036854775808 ≤ d
    · rw [if_pos h, if_pos (decide_eq_true h)]
    · rw [if_neg h, if_neg (by simpa using h)]
  generalize decide (9223372036854775808 ≤ d) = ng at *
  generalize Ie.whp (d % 9223372036854775808) = V at *
  generalize Rn.cutI d = K at *
  have CI := hid CI
  clear hr hf Vb h0 h1
  have FD : ∀ (wx : World) (c m x : Int), (Instr.field 99 (partsOf ng c m x) 0).run Tryz.prog wx = .ok (.bool ng) wx := fun wx c m x => by kernel_rfl
  go_enter Tryz.func89, Tryz.ntmps89
  go_wp2_with fail
  with_reducible refine TI.out.mono ?_
  rintro r w1 ⟨j, f, rfl, t, b1⟩
  rcases t with ⟨t1, t2, t3⟩ | ⟨t1, t2, t3⟩
  · have J : Hid (min (max j (-4097)) 4097 = K) := by rw [Hid, CI.out, t2]
    have B1 := hid b1
    subst t3
    clear t1 t2 b1 TI DC CI
    go_wp2_with fail
    go_ret
    exact ⟨by rw [← J.out]; rfl, B1.out⟩
  · subst t3
    cases ng with
    | true =>
      have J : Hid ((-4097 : Int) = K) := by
        rw [Hid, CI.out, if_pos rfl]; rw [if_pos rfl] at t1; omega
      clear t1 t2 TI CI
      have B1 := hid b1
      clear b1
      go_wp2_with fail
      with_reducible refine (DC.out _).mono ?_
      rintro r w2 ⟨rfl, b2⟩
      have B2 := hid (below_on B1.out b2)
      clear b2 B1 DC
      go_wp2_with fail
      go_ret
      exact ⟨by rw [← J.out]; rfl, B2.out⟩
    | false =>
      have J : Hid ((4097 : Int) = K) := by
        rw [Hid, CI.out, if_neg (by decide)]; rw [if_neg (by decide)] at t1; omega
      clear t1 t2 TI CI
      have B1 := hid b1
      clear b1
      go_wp2_with fail
      with_reducible refine (DC.out _).mono ?_
      rintro r w2 ⟨rfl, b2⟩
      have B2 := hid (below_on B1.out b2)
      clear b2 B1 DC
      go_wp2_with fail
      go_ret
      exact ⟨by rw [← J.out]; rfl, B2.out⟩
end Go.Proofs.YtiflponlioldmaaGreatDoor

namespace Go.Proofs.YtiflponlioldmaaGreatDoor
open Go Go.RowKit Go.Deep Go.Shelf

theorem rget_mem {ps : List Dr.Pc} {i : Nat} (hi : i < ps.length) : ps.getD i Dr.Pc.no ∈ ps := by
  rw [List.getD_eq_getElem?_getD, List.getElem?_eq_getElem hi]; exact List.getElem_mem hi
theorem rok_take {ps : List Dr.Pc} {i : Nat} (hi : i < ps.length) (h : ∀ p ∈ ps.take i, Dr.ok p) (k : Dr.ok (ps.getD i Dr.Pc.no)) : ∀ p ∈ ps.take (i + 1), Dr.ok p := by
  intro p hp
  rw [List.take_add_one, List.getElem?_eq_getElem hi, List.mem_append] at hp
  rcases hp with hp | hp
  · exact h p hp
  · rw [List.getD_eq_getElem?_getD, List.getElem?_eq_getElem hi] at k
    simp at hp
    rw [hp]; exact k
/-- What checkAll does. -/
def ChkTold (ps : List Dr.Pc) (w : World) (r : Ending) (w' : World) : Prop := (((∀ p ∈ ps, Dr.ok p) ∧ r = .returned (.tuple #[])) ∨ (¬ (∀ p ∈ ps, Dr.ok p) ∧ r = .panicked (flt 132))) ∧ Below w.heap.size w w'

set_option maxRecDepth 100000 in
set_option maxHeartbeats 1000000 in
theorem checkAll_any (a : Option Addr) (cap : Nat) (ps : List Dr.Pc) (w : World) (h : LP w a ps) (hn : ps.length ≤ 2199023255552) (hw : ∀ p ∈ ps, PcW p) :
    Calls Tryz.prog 39 #[.slice a ps.length cap] w fun r w' => ChkTold ps w r w' := by
  have H := hid h
  have HN := hid hn
  have HW := hid hw
  have GU := hid (fun wk => giveUp_any 132 wk)
  clear h hn hw
  go_enter Tryz.func39, Tryz.ntmps39
  go_wp2_with fail
  go_loopg [7] ps.length (fun m iv wr => ∃ i : Nat, i + m = ps.length ∧ iv = .int .i64 (i : Int) ∧ Hid (Below w.heap.size w wr ∧ ∀ p ∈ ps.take i, Dr.ok p))
  case atStart => exact ⟨0, by omega, rfl, Below.refl _ _, by simp⟩
  case round =>
    obtain ⟨i, hi, rfl, I⟩ := hrel
    by_cases hl : i < ps.length
    · have hli : (i : Int) < (ps.length : Int) := by omega
      obtain ⟨b, off, rfl, hc⟩ := (H.out.below I.out.1).at i hl
      obtain ⟨c0, c1, c2, c3, c4, c5, c6⟩ := hc
      have ib : (i : Int) ≤ 2199023255552 := by have := HN.out; omega
      have CK := hid (fun wk => check_pc (ps.getD i Dr.Pc.no) wk (HW.out _ (rget_mem hl)))
      have AL := hid (fun v0 v1 v2 v3 v4 v5 v6 => alloc_b wr (.cells #[v0, v1, v2, v3, v4, v5, v6] 39))
      by_cases ok : Dr.ok (ps.getD i Dr.Pc.no)
      · have F := hid (rok_take hl I.out.2 ok)
        have BI := hid I.out.1
        have e0 : okN (ps.getD i Dr.Pc.no) = 0 := if_pos ok
        rw [e0] at CK
        clear ok e0 I
        generalize ps.getD i Dr.Pc.no = p at *
        go_wp2_with fail
        with_reducible refine (CK.out _).mono ?_
        rintro r w2 ⟨rfl, b2⟩
        have B2 := hid (below_on BI.out (below_on (AL.out _ _ _ _ _ _ _) b2))
        clear b2 CK AL BI
        go_wp2_with fail
        go_roundg (ps.length - (i + 1))
        case measure => omega
        case rel => exact ⟨i + 1, by omega, by go_num, B2.out, F.out⟩
      · have e0 : okN (ps.getD i Dr.Pc.no) = 132 := if_neg ok
        have NO : Hid (¬ ∀ p ∈ ps, Dr.ok p) := fun q => ok (q _ (rget_mem hl))
        have BI := hid I.out.1
        rw [e0] at CK
        clear ok e0 I
        generalize ps.getD i Dr.Pc.no = p at *
        go_wp2_with fail
        with_reducible refine (CK.out _).mono ?_
        rintro r w2 ⟨rfl, b2⟩
        have B2 := hid (below_on BI.out (below_on (AL.out _ _ _ _ _ _ _) b2))
        clear b2 CK AL BI
        go_wp2_with fail
        with_reducible refine (GU.out _).mono ?_
        rintro r w3 ⟨rfl, e3⟩
        subst e3
        exact ⟨rfl, .inr ⟨NO.out, rfl⟩, B2.out⟩
    · have hli : ¬ (i : Int) < (ps.length : Int) := by omega
      have F : Hid (ChkTold ps w (.returned (.tuple #[])) wr) := ⟨.inl ⟨by have := I.out.2; rwa [List.take_of_length_le (by omega)] at this, rfl⟩, I.out.1⟩
      clear I
      go_wp2_with fail
      go_end0
      exact F.out
end Go.Proofs.YtiflponlioldmaaGreatDoor
