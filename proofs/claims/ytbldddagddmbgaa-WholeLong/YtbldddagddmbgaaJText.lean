/-
  whole: first, Char, Text.
-/
import Derived.Test.YtbldddagddmbgaaJPad
namespace Go.Proofs.Ytbldddagddmbgaa
open Go Go.RowKit Go.Deep Go.Shelf

theorem ext_take {xs : List Int} (hx : Wh.By xs) (k : Nat) : (strOfNums xs).extract 0 k = strOfNums (xs.take k) := by
  have q := (Str.of_nums hx).extract 0 k
  rw [List.drop_zero, Nat.sub_zero] at q
  exact str_is q

set_option maxRecDepth 100000 in
theorem first_any (xs : List Int) (n : Nat) (w : World) (hx : Wh.By xs) (hl : xs.length ≤ 140737488355328) (hn : n ≤ 4096) :
    Calls Try.prog 16 #[.string (strOfNums xs), .int .i64 (n : Int)] w fun e w' => e = .returned (.string (strOfNums (xs.take n))) ∧ Below w.heap.size w w' := by
  have B := hid (Below.refl w.heap.size w)
  have sx : (strOfNums xs).size = xs.length := strOfNums_size xs
  have l2 : (xs.length : Int) ≤ 140737488355328 := by omega
  have n2 : (n : Int) ≤ 4096 := by omega
  by_cases h : n ≤ xs.length
  · have mn : min (n : Int) (xs.length : Int) = (n : Int) := by omega
    have G := hid (ext_take hx n)
    clear hx
    go_enter Try.func16, Try.ntmps16
    go_wp2_with fail
    go_ret
    exact ⟨ret_str G.out, B.out⟩
  · have mn : min (n : Int) (xs.length : Int) = (xs.length : Int) := by omega
    have G : Hid ((strOfNums xs).extract 0 xs.length = strOfNums (xs.take n)) := by
      rw [Hid, ext_take hx, List.take_of_length_le (Nat.le_refl _), List.take_of_length_le (by omega)]
    clear hx
    go_enter Try.func16, Try.ntmps16
    go_wp2_with fail
    go_ret
    exact ⟨ret_str G.out, B.out⟩

def ChrTold (V F W P : Int) (t : List Int) (w : World) (e : Ending) (w' : World) : Prop := e = .returned (.tuple #[.string (strOfNums (Wh.chr V F W P t)), .int .i64 (Wh.chrE V F W P)]) ∧ Below w.heap.size w w'
def TexTold (V F W P : Int) (t : List Int) (w : World) (e : Ending) (w' : World) : Prop := e = .returned (.tuple #[.string (strOfNums (Wh.tex V F W P t)), .int .i64 (Wh.texE V F W P t)]) ∧ Below w.heap.size w w'

set_option maxRecDepth 100000 in
set_option maxHeartbeats 2000000 in
theorem char_any (V F W P : Int) (t : List Int) (w : World) (h0 : 0 ≤ V) (h1 : V < 256) (ht : Wh.By t) (hl : t.length ≤ 140737488355328) :
    Calls Try.prog 12 #[.agg #[.int .u8 V, .int .i64 F, .int .i64 W, .int .i64 P], .string (strOfNums t)] w fun e w' => ChrTold V F W P t w e w' := by
  have B0 := hid (SB.new w V F W P)
  have CV := hid (fun W' => checkVerb_any V F W P ⟨#[99]⟩ _ W' (vb_c V h0 h1))
  have e0 : (if decide (V = 99) = true then Wh.chk F W P else 140) = Wh.chrE V F W P := by
    rw [Wh.chrE]; by_cases h : V = 99
    · rw [if_pos (decide_eq_true h), if_pos h]
    · rw [if_neg (by simpa using h), if_neg h]
  rw [e0] at CV
  clear e0
  by_cases hE : Wh.chrE V F W P = 0
  · have hV : V = 99 := by
      by_cases h : V = 99
      · exact h
      · rw [Wh.chrE, if_neg h] at hE; omega
    have hc : Wh.chk F W P = 0 := by rw [Wh.chrE, if_pos hV] at hE; exact hE
    have FI : Hid (∀ W', Calls Try.prog 16 #[.string (strOfNums t), .int .i64 1] W' fun e w' => e = .returned (.string (strOfNums (t.take 1))) ∧ Below W'.heap.size W' w') := fun W' => first_any t 1 W' ht hl (by omega)
    have PA : Hid (∀ W', Calls Try.prog 10 #[.agg #[.int .u8 V, .int .i64 F, .int .i64 W, .int .i64 P], .string ⟨#[]⟩, .string (strOfNums (t.take 1)), .bool false] W' fun e w' => PadTold F W P false [] (t.take 1) W' e w') := (fun W' => pad_any V F W P [] (t.take 1) false W' Wh.By.nil (ht.take 1) (by simp) (by rw [List.length_take]; omega))
    have pe : Wh.padE F W P [] (t.take 1) = 0 := by rw [Wh.padE, if_pos hc, if_neg (by rw [List.length_take]; simp; omega)]
    have G : Hid (∀ W' e w', PadTold F W P false [] (t.take 1) W' e w' → Below w.heap.size w W' → ∃ s, e = .returned (.tuple #[.string s, .int .i64 0]) ∧ ChrTold V F W P t w (.returned (.tuple #[.string s, .int .i64 0])) w') := by
      rintro W' e w' ⟨rfl, k⟩ b
      rw [pe]
      exact ⟨_, rfl, by rw [Wh.chr, if_pos hE, hE, Wh.pad, if_pos pe], below_on b k⟩
    rw [hE] at CV
    clear hE hV hc pe ht hl h0 h1
    go_enter Try.func12, Try.ntmps12
    go_wp2_with fail
    refine (CV.out _).mono ?_
    rintro e w1 ⟨rfl, b1⟩
    have B1 := hid (B0.out.on b1)
    clear b1 CV B0
    go_upto_region 4 with fail
    have T1 := hid B1.out.drew
    go_region_held3 (fun wx => wx.cell? ⟨w.heap.size, 0, none⟩ = some (.int .u8 V) ∧ wx.cell? ⟨w.heap.size, 1, none⟩ = some (.int .i64 F) ∧ wx.cell? ⟨w.heap.size, 2, none⟩ = some (.int .i64 W) ∧ wx.cell? ⟨w.heap.size, 3, none⟩ = some (.int .i64 P)) (first | (with_reducible exact T3.out.flat) | (with_reducible exact T2.out.flat) | (with_reducible exact T1.out.flat)) (first
      | (go_at_call 16; with_reducible refine (FI.out _).mono ?_; rintro e wa ⟨rfl, hB⟩; have T2 := hid (T1.out.on hB); clear hB)
      | (go_at_call 10; with_reducible refine (PA.out _).mono ?_; rintro e wb hP; have T3 := hid (T2.out.on hP.bel); obtain ⟨s, rfl, R⟩ := G.out _ _ _ hP T2.out.bel; have R := hid R; clear hP))
    go_wp2_with fail
    go_ret2
    exact R.out
  · have G : Hid (∀ w', Below w.heap.size w w' → ChrTold V F W P t w (.returned (.tuple #[.string ⟨#[]⟩, .int .i64 (Wh.chrE V F W P)])) w') := fun w' k => ⟨by rw [Wh.chr, if_neg hE]; rfl, k⟩
    have hne : (Wh.chrE V F W P == 0) = false := by simpa using hE
    clear hE ht hl
    generalize Wh.chrE V F W P = E at *
    go_enter Try.func12, Try.ntmps12
    go_wp2_with fail
    refine (CV.out _).mono ?_
    rintro e w1 ⟨rfl, b1⟩
    have R := hid (G.out _ (B0.out.on b1).bel)
    clear b1 CV
    go_wp2_with fail
    go_ret2
    exact R.out

set_option maxRecDepth 100000 in
set_option maxHeartbeats 2000000 in
theorem text_any (V F W P : Int) (t : List Int) (w : World) (h0 : 0 ≤ V) (h1 : V < 256) (ht : Wh.By t) (hl : t.length ≤ 140737488355328) :
    Calls Try.prog 9 #[.agg #[.int .u8 V, .int .i64 F, .int .i64 W, .int .i64 P], .string (strOfNums t)] w fun e w' => TexTold V F W P t w e w' := by
  have B0 := hid (SB.new w V F W P)
  have CV := hid (fun W' => checkVerb_any V F W P ⟨#[115]⟩ _ W' (vb_s V h0 h1))
  by_cases hV : V = 115
  · rw [if_pos (decide_eq_true hV)] at CV
    have eE : Wh.texE V F W P t = Wh.padE F W P [] (Wh.cut P t) := by rw [Wh.texE, if_pos hV]
    by_cases hc : Wh.chk F W P = 0
    · obtain ⟨-, -, ⟨p0, p1⟩⟩ := Wh.chk_ok hc
      have G : Hid (∀ W' e w', PadTold F W P false [] (Wh.cut P t) W' e w' → Below w.heap.size w W' → ∃ s E, e = .returned (.tuple #[.string s, .int .i64 E]) ∧ TexTold V F W P t w (.returned (.tuple #[.string s, .int .i64 E])) w') := by
        rintro W' e w' ⟨rfl, k⟩ b
        exact ⟨_, _, rfl, by rw [Wh.tex, eE, Wh.pad], below_on b k⟩
      rw [hc] at CV
      by_cases hP : P = -1
      · have ec : Wh.cut P t = t := if_pos hP
        have PA : Hid (∀ W', Calls Try.prog 10 #[.agg #[.int .u8 V, .int .i64 F, .int .i64 W, .int .i64 P], .string ⟨#[]⟩, .string (strOfNums t), .bool false] W' fun e w' => PadTold F W P false [] t W' e w') := (fun W' => pad_any V F W P [] t false W' Wh.By.nil ht (by simp) hl)
        rw [ec] at G
        clear eE hc ec ht hl h0 h1 hV
        subst hP
        go_enter Try.func9, Try.ntmps9
        go_wp2_with fail
        refine (CV.out _).mono ?_
        rintro e w1 ⟨rfl, b1⟩
        have B1 := hid (B0.out.on b1)
        clear b1 CV B0
        obtain ⟨c0, c1, c2, c3⟩ := B1.out.flat
        go_wp2_with fail
        refine (PA.out _).mono ?_
        rintro e wb hP
        obtain ⟨s, E, rfl, R⟩ := G.out _ _ _ hP B1.out.bel
        have R := hid R
        clear hP
        go_wp2_with fail
        go_ret2
        exact R.out
      · obtain ⟨n, rfl⟩ := Int.eq_ofNat_of_zero_le (show 0 ≤ P by omega)
        have ec : Wh.cut (n : Int) t = t.take n := by rw [Wh.cut, if_neg hP]; rfl
        have FI := hid (fun W' => first_any t n W' ht hl (by omega))
        have PA : Hid (∀ W', Calls Try.prog 10 #[.agg #[.int .u8 V, .int .i64 F, .int .i64 W, .int .i64 (n : Int)], .string ⟨#[]⟩, .string (strOfNums (t.take n)), .bool false] W' fun e w' => PadTold F W (n : Int) false [] (t.take n) W' e w') := (fun W' => pad_any V F W (n : Int) [] (t.take n) false W' Wh.By.nil (ht.take n) (by simp) (by rw [List.length_take]; omega))
        rw [ec] at G
        have hne : ((n : Int) == -1) = false := by simp
        clear eE hc ec ht hl h0 h1 hV hP
        go_enter Try.func9, Try.ntmps9
        go_wp2_with fail
        refine (CV.out _).mono ?_
        rintro e w1 ⟨rfl, b1⟩
        have B1 := hid (B0.out.on b1)
        clear b1 CV B0
        obtain ⟨c0, c1, c2, c3⟩ := B1.out.flat
        go_wp2_with fail
        refine (FI.out _).mono ?_
        rintro e w2 ⟨rfl, b2⟩
        have B2 := hid (B1.out.on b2)
        clear b2 B1 c0 c1 c2 c3
        obtain ⟨c0, c1, c2, c3⟩ := B2.out.flat
        go_wp2_with fail
        refine (PA.out _).mono ?_
        rintro e wb hP
        obtain ⟨s, E, rfl, R⟩ := G.out _ _ _ hP B2.out.bel
        have R := hid R
        clear hP
        go_wp2_with fail
        go_ret2
        exact R.out
    · have eE2 : Wh.texE V F W P t = Wh.chk F W P := by rw [eE, Wh.padE, if_neg hc]
      have G : Hid (∀ w', Below w.heap.size w w' → TexTold V F W P t w (.returned (.tuple #[.string ⟨#[]⟩, .int .i64 (Wh.chk F W P)])) w') := fun w' k => ⟨by rw [Wh.tex, eE2, if_neg hc]; rfl, k⟩
      have hne : (Wh.chk F W P == 0) = false := by simpa using hc
      clear hc eE eE2 ht hl hV
      generalize Wh.chk F W P = E at *
      go_enter Try.func9, Try.ntmps9
      go_wp2_with fail
      refine (CV.out _).mono ?_
      rintro e w1 ⟨rfl, b1⟩
      have R := hid (G.out _ (B0.out.on b1).bel)
      clear b1 CV
      go_wp2_with fail
      go_ret2
      exact R.out
  · rw [if_neg (by simpa using hV)] at CV
    have eE : Wh.texE V F W P t = 140 := by rw [Wh.texE, if_neg hV]
    have G : Hid (∀ w', Below w.heap.size w w' → TexTold V F W P t w (.returned (.tuple #[.string ⟨#[]⟩, .int .i64 140])) w') := fun w' k => ⟨by rw [Wh.tex, eE, if_neg (by decide)]; rfl, k⟩
    clear ht hl hV eE
    go_enter Try.func9, Try.ntmps9
    go_wp2_with fail
    refine (CV.out _).mono ?_
    rintro e w1 ⟨rfl, b1⟩
    have R := hid (G.out _ (B0.out.on b1).bel)
    clear b1 CV
    go_wp2_with fail
    go_ret2
    exact R.out
end Go.Proofs.Ytbldddagddmbgaa
