/-
  abacusref14: Char, Text.
-/
import Derived.Test.YtbldddagddmbgaaJRef0
import Derived.Test.YtbldddagddmbgaaJText
namespace Go.Proofs.Ytbldddagddmbgaa
open Go Go.RowKit Go.Deep Go.Shelf

set_option maxRecDepth 100000 in
set_option maxHeartbeats 2000000 in
theorem rchar_any (V F W P : Int) (t : List Int) (w : World) (ht : Wh.By t) (hl : t.length ≤ 140737488355328) :
    Calls Try.prog 11 #[.agg #[.int .u8 V, .int .i64 F, .int .i64 W, .int .i64 P], .string (strOfNums t)] w fun e w' => ChrTold V F W P t w e w' := by
  have B0 := hid (SB.new w V F W P)
  have CV : Hid (∀ W', Calls Try.prog 23 #[.agg #[.int .u8 V, .int .i64 F, .int .i64 W, .int .i64 P], .string ⟨#[99]⟩] W' fun e w' => e = .returned (.int .i64 (Wh.chrE V F W P)) ∧ Below W'.heap.size W' w') := by
    intro W'
    have q := bad_any V F W P [99] W' (by intro x hx; simp at hx; omega) (by simp)
    have e : (if V ∈ [99] then Wh.chk F W P else 140) = Wh.chrE V F W P := by
      rw [Wh.chrE]; by_cases h : V = 99
      · rw [if_pos h, if_pos (by simp [h])]
      · rw [if_neg h, if_neg (by simpa using h)]
    rw [e] at q
    exact q
  have st : (strOfNums t).size = t.length := strOfNums_size t
  have l2 : (t.length : Int) ≤ 140737488355328 := by omega
  by_cases hE : Wh.chrE V F W P = 0
  · have hV : V = 99 := by
      by_cases h : V = 99
      · exact h
      · rw [Wh.chrE, if_neg h] at hE; omega
    have hc : Wh.chk F W P = 0 := by rw [Wh.chrE, if_pos hV] at hE; exact hE
    have PA : Hid (∀ W', Calls Try.prog 14 #[.agg #[.int .u8 V, .int .i64 F, .int .i64 W, .int .i64 P], .string ⟨#[]⟩, .string (strOfNums (t.take 1)), .bool false] W' fun e w' => PadTold F W P false [] (t.take 1) W' e w') := (fun W' => rpad_any V F W P [] (t.take 1) false W' Wh.By.nil (ht.take 1) (by simp) (by rw [List.length_take]; omega))
    have pe : Wh.padE F W P [] (t.take 1) = 0 := by rw [Wh.padE, if_pos hc, if_neg (by rw [List.length_take]; simp; omega)]
    have G : Hid (∀ W' e w', PadTold F W P false [] (t.take 1) W' e w' → Below w.heap.size w W' → ∃ s, e = .returned (.tuple #[.string s, .int .i64 0]) ∧ ChrTold V F W P t w (.returned (.tuple #[.string s, .int .i64 0])) w') := by
      rintro W' e w' ⟨rfl, k⟩ b
      rw [pe]
      exact ⟨_, rfl, by rw [Wh.chr, if_pos hE, hE, Wh.pad, if_pos pe], below_on b k⟩
    rw [hE] at CV
    by_cases h1 : 1 < t.length
    · have h1i : (1 : Int) < (t.length : Int) := by omega
      have X := ext_take ht 1
      clear hE hV hc pe ht hl
      go_enter Try.func11, Try.ntmps11
      go_wp2_with fail
      with_reducible refine (CV.out _).mono ?_
      rintro e w1 ⟨rfl, b1⟩
      have B1 := hid (B0.out.on b1)
      clear b1 CV B0
      obtain ⟨c0, c1, c2, c3⟩ := B1.out.flat
      go_wp2_with fail
      with_reducible refine (PA.out _).mono ?_
      rintro e wb hP
      obtain ⟨s, rfl, R⟩ := G.out _ _ _ hP B1.out.bel
      have R := hid R
      clear hP
      go_wp2_with fail
      go_ret2
      exact R.out
    · have h1i : ¬ (1 : Int) < (t.length : Int) := by omega
      rw [List.take_of_length_le (by omega)] at PA G
      clear hE hV hc pe ht hl
      go_enter Try.func11, Try.ntmps11
      go_wp2_with fail
      with_reducible refine (CV.out _).mono ?_
      rintro e w1 ⟨rfl, b1⟩
      have B1 := hid (B0.out.on b1)
      clear b1 CV B0
      obtain ⟨c0, c1, c2, c3⟩ := B1.out.flat
      go_wp2_with fail
      with_reducible refine (PA.out _).mono ?_
      rintro e wb hP
      obtain ⟨s, rfl, R⟩ := G.out _ _ _ hP B1.out.bel
      have R := hid R
      clear hP
      go_wp2_with fail
      go_ret2
      exact R.out
  · have G : Hid (∀ w', Below w.heap.size w w' → ChrTold V F W P t w (.returned (.tuple #[.string ⟨#[]⟩, .int .i64 (Wh.chrE V F W P)])) w') := fun w' k => ⟨by rw [Wh.chr, if_neg hE]; rfl, k⟩
    have hne : (Wh.chrE V F W P == 0) = false := by simpa using hE
    clear hE ht hl
    generalize Wh.chrE V F W P = E at *
    go_enter Try.func11, Try.ntmps11
    go_wp2_with fail
    with_reducible refine (CV.out _).mono ?_
    rintro e w1 ⟨rfl, b1⟩
    have R := hid (G.out _ (B0.out.on b1).bel)
    clear b1 CV
    go_wp2_with fail
    go_ret2
    exact R.out

set_option maxRecDepth 100000 in
set_option maxHeartbeats 2000000 in
theorem rtext_any (V F W P : Int) (t : List Int) (w : World) (ht : Wh.By t) (hl : t.length ≤ 140737488355328) :
    Calls Try.prog 13 #[.agg #[.int .u8 V, .int .i64 F, .int .i64 W, .int .i64 P], .string (strOfNums t)] w fun e w' => TexTold V F W P t w e w' := by
  have B0 := hid (SB.new w V F W P)
  have BA := hid (fun W' => bad_any V F W P [115] W' (by intro x hx; simp at hx; omega) (by simp))
  rw [show strOfNums [115] = ⟨#[115]⟩ from rfl] at BA
  have st : (strOfNums t).size = t.length := strOfNums_size t
  have l2 : (t.length : Int) ≤ 140737488355328 := by omega
  by_cases hV : V = 115
  · rw [if_pos (show V ∈ [115] by simp [hV])] at BA
    have eE : Wh.texE V F W P t = Wh.padE F W P [] (Wh.cut P t) := by rw [Wh.texE, if_pos hV]
    by_cases hc : Wh.chk F W P = 0
    · obtain ⟨-, -, ⟨p0, p1⟩⟩ := Wh.chk_ok hc
      have yc : Wh.By (Wh.cut P t) ∧ (Wh.cut P t).length ≤ 140737488355328 := by
        by_cases q : P = -1
        · rw [Wh.cut, if_pos q]; exact ⟨ht, hl⟩
        · rw [Wh.cut, if_neg q]; exact ⟨ht.take _, by rw [List.length_take]; omega⟩
      have PA : Hid (∀ W', Calls Try.prog 14 #[.agg #[.int .u8 V, .int .i64 F, .int .i64 W, .int .i64 P], .string ⟨#[]⟩, .string (strOfNums (Wh.cut P t)), .bool false] W' fun e w' => PadTold F W P false [] (Wh.cut P t) W' e w') := (fun W' => rpad_any V F W P [] (Wh.cut P t) false W' Wh.By.nil yc.1 (by simp) yc.2)
      have G : Hid (∀ W' e w', PadTold F W P false [] (Wh.cut P t) W' e w' → Below w.heap.size w W' → ∃ s E, e = .returned (.tuple #[.string s, .int .i64 E]) ∧ TexTold V F W P t w (.returned (.tuple #[.string s, .int .i64 E])) w') := by
        rintro W' e w' ⟨rfl, k⟩ b
        exact ⟨_, _, rfl, by rw [Wh.tex, eE, Wh.pad], below_on b k⟩
      rw [hc] at BA
      by_cases hP : 0 ≤ P ∧ P < (t.length : Int)
      · obtain ⟨n, rfl⟩ := Int.eq_ofNat_of_zero_le hP.1
        have ec : Wh.cut (n : Int) t = t.take n := by rw [Wh.cut, if_neg (by omega)]; rfl
        have X := ext_take ht n
        rw [ec] at PA G
        have h2 : (n : Int) < (t.length : Int) := hP.2
        have h3 : (n : Int) ≤ 4096 := p1
        have h4 : n < t.length := by omega
        clear eE hc ec ht hl hV hP yc p0
        go_enter Try.func13, Try.ntmps13
        go_wp2_with fail
        with_reducible refine (BA.out _).mono ?_
        rintro e w1 ⟨rfl, b1⟩
        have B1 := hid (B0.out.on b1)
        clear b1 BA B0
        obtain ⟨c0, c1, c2, c3⟩ := B1.out.flat
        go_wp2_with fail
        with_reducible refine (PA.out _).mono ?_
        rintro e wb hP
        obtain ⟨s, E, rfl, R⟩ := G.out _ _ _ hP B1.out.bel
        have R := hid R
        clear hP
        go_wp2_with fail
        go_ret2
        exact R.out
      · have ec : Wh.cut P t = t := by
          by_cases q : P = -1
          · rw [Wh.cut, if_pos q]
          · rw [Wh.cut, if_neg q, List.take_of_length_le (by omega)]
        rw [ec] at PA G
        clear eE hc ec ht hl hV yc
        by_cases h0 : 0 ≤ P
        · have h2 : ¬ P < (t.length : Int) := fun q => hP ⟨h0, q⟩
          clear hP
          go_enter Try.func13, Try.ntmps13
          go_wp2_with fail
          with_reducible refine (BA.out _).mono ?_
          rintro e w1 ⟨rfl, b1⟩
          have B1 := hid (B0.out.on b1)
          clear b1 BA B0
          obtain ⟨c0, c1, c2, c3⟩ := B1.out.flat
          go_wp2_with fail
          with_reducible refine (PA.out _).mono ?_
          rintro e wb hP
          obtain ⟨s, E, rfl, R⟩ := G.out _ _ _ hP B1.out.bel
          have R := hid R
          clear hP
          go_wp2_with fail
          go_ret2
          exact R.out
        · clear hP
          go_enter Try.func13, Try.ntmps13
          go_wp2_with fail
          with_reducible refine (BA.out _).mono ?_
          rintro e w1 ⟨rfl, b1⟩
          have B1 := hid (B0.out.on b1)
          clear b1 BA B0
          obtain ⟨c0, c1, c2, c3⟩ := B1.out.flat
          go_wp2_with fail
          with_reducible refine (PA.out _).mono ?_
          rintro e wb hP
          obtain ⟨s, E, rfl, R⟩ := G.out _ _ _ hP B1.out.bel
          have R := hid R
          clear hP
          go_wp2_with fail
          go_ret2
          exact R.out
    · have eE2 : Wh.texE V F W P t = Wh.chk F W P := by rw [eE, Wh.padE, if_neg hc]
      have G : Hid (∀ w', Below w.heap.size w w' → TexTold V F W P t w (.returned (.tuple #[.string ⟨#[]⟩, .int .i64 (Wh.chk F W P)])) w') := fun w' k => ⟨by rw [Wh.tex, eE2, if_neg hc]; rfl, k⟩
      have hne : (Wh.chk F W P == 0) = false := by simpa using hc
      clear hc eE eE2 ht hl hV
      generalize Wh.chk F W P = E at *
      go_enter Try.func13, Try.ntmps13
      go_wp2_with fail
      with_reducible refine (BA.out _).mono ?_
      rintro e w1 ⟨rfl, b1⟩
      have R := hid (G.out _ (B0.out.on b1).bel)
      clear b1 BA
      go_wp2_with fail
      go_ret2
      exact R.out
  · rw [if_neg (show ¬ V ∈ [115] by simpa using hV)] at BA
    have eE : Wh.texE V F W P t = 140 := by rw [Wh.texE, if_neg hV]
    have G : Hid (∀ w', Below w.heap.size w w' → TexTold V F W P t w (.returned (.tuple #[.string ⟨#[]⟩, .int .i64 140])) w') := fun w' k => ⟨by rw [Wh.tex, eE, if_neg (by decide)]; rfl, k⟩
    clear ht hl hV eE
    go_enter Try.func13, Try.ntmps13
    go_wp2_with fail
    with_reducible refine (BA.out _).mono ?_
    rintro e w1 ⟨rfl, b1⟩
    have R := hid (G.out _ (B0.out.on b1).bel)
    clear b1 BA
    go_wp2_with fail
    go_ret2
    exact R.out
end Go.Proofs.Ytbldddagddmbgaa
