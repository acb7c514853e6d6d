/-
  chars: Join, Cat, Index; the blanks.
-/
import Derived.Test.YtgliefdefklfeaaChA
namespace Go.Proofs.Ytgliefdefklfeaa
open Go Go.RowKit Go.Deep Go.Shelf

/-- What Join tells. -/
def JoTold (sep : Ch.L8) (xs : List ByteArray) (w : World) (e : Ending) (w' : World) : Prop :=
  e = .returned (.tuple #[.string (Ch.jS sep xs), .int .i64 (Ch.jE sep xs)]) ∧ Below w.heap.size w w'

set_option maxRecDepth 100000 in
set_option maxHeartbeats 2000000 in
theorem cjoin_any (a : Option Addr) (cap : Nat) (xs : List ByteArray) (sep : ByteArray) (w : World) (h : TR w a xs) (hn : xs.length ≤ 8796093022208) (hx : ∀ i, (xs.getD i ByteArray.empty).size ≤ 140737488355328) (hs : sep.size ≤ 140737488355328) :
    Calls Try.prog 14 #[.slice a xs.length cap, .string sep] w (JoTold sep.data.toList xs w) := by
  have LN := hid (clength_any a cap xs sep w h hn hx hs)
  have H := hid h
  have HN := hid hn
  have JS : Hid (∀ k, Ch.jt sep.data.toList xs (k + 1) = Ch.jt sep.data.toList xs k ++ ((if k = 0 then [] else sep.data.toList) ++ (xs.getD k ByteArray.empty).data.toList)) := fun k => rfl
  have SL : Hid (sep.data.toList.length = sep.size) := Ch.size_len sep
  by_cases hl : (Ch.jn sep.data.toList xs).length ≤ 16777216
  · have LE : Hid (∀ k, k ≤ xs.length → (Ch.jt sep.data.toList xs k).length ≤ 16777216) := fun k hk => Nat.le_trans (Ch.jt_len_mono _ _ hk) hl
    have F1 : Hid (∀ w', Below w.heap.size w w' → JoTold sep.data.toList xs w (.returned (.tuple #[.string (Ch.tx (Ch.jt sep.data.toList xs xs.length)), .int .i64 0])) w') := fun w' b => ⟨by rw [Ch.jS, Ch.jE, if_pos hl, if_pos hl]; rfl, b⟩
    have hl2 : (Ch.jn sep.data.toList xs).length ≤ 16777216 := hl
    have GR : Hid (Calls Try.prog 23 #[.pointer (some ⟨w.heap.size, 0, none⟩), .int .i64 (((Ch.jn sep.data.toList xs).length : Nat) : Int)] (w.alloc (.cells #[.pointer none, .slice none 0 0] 46)) fun e w' => e = .returned (.tuple #[]) ∧ CB w w.heap.size [] w') :=
      CB.grow (w0 := w) _ (Below.refl _ _) (by omega)
    have LN2 : Hid (Calls Try.prog 22 #[.slice a xs.length cap, .string sep] w fun e w' => e = .returned (.int .i64 (((Ch.jn sep.data.toList xs).length : Nat) : Int)) ∧ w' = w) := by
      refine LN.out.mono ?_
      rintro e w' ⟨z, rfl, hw, h1, _⟩
      exact ⟨by rw [h1 hl2], hw⟩
    clear h hn hx hs hl LN
    generalize hJ : (Ch.jn sep.data.toList xs).length = J at *
    clear hJ
    have hJi : ¬ (16777216 : Int) < (J : Int) := by omega
    clear hl2
    generalize hsp : sep.data.toList = sp at *
    have HSP := hid hsp
    clear hsp
    go_enter Try.func14, Try.ntmps14
    go_wp2_with fail
    refine LN2.out.mono ?_
    rintro e w1 ⟨rfl, hw⟩
    subst hw
    go_wp2_with fail
    refine GR.out.mono ?_
    rintro e w2 ⟨rfl, hC⟩
    have C0 := hid hC
    clear hC GR LN2
    go_wp2_with fail
    go_loopg [19] xs.length (fun m iv wr => ∃ k : Nat, k + m = xs.length ∧ iv = .int .i64 (k : Int) ∧ Hid (CB w1 w1.heap.size (Ch.jt sp xs k) wr))
    case atStart => exact ⟨0, by omega, rfl, C0.out⟩
    case round =>
      obtain ⟨k, hk, rfl, C⟩ := hrel
      by_cases kl : k < xs.length
      · have kli : (k : Int) < (xs.length : Int) := by omega
        have kb : (k : Int) ≤ 8796093022208 := by have := HN.out; omega
        obtain ⟨b, off, rfl, hc⟩ := (H.out.below C.out.bel (Nat.le_refl _)).at k kl
        have E := JS.out k
        have M := LE.out (k + 1) (by omega)
        have XL := Ch.size_len (xs.getD k ByteArray.empty)
        have SL' := SL.out
        generalize xs.getD k ByteArray.empty = x at *
        by_cases k0 : k = 0
        · rw [if_pos k0, List.nil_append] at E
          have kz : ¬ (0 : Int) < (k : Int) := by omega
          have W1 := hid (C.out.write x (by rw [E, List.length_append, XL] at M; omega))
          rw [← E] at W1
          clear E M XL k0 SL' C0 C
          go_wp2_with fail
          refine W1.out.mono ?_
          rintro e w3 ⟨rfl, hC⟩
          have C3 := hid hC
          clear hC W1
          go_wp2_with fail
          go_roundg (xs.length - (k + 1))
          case measure => omega
          case rel => exact ⟨k + 1, by omega, by go_num, C3⟩
        · rw [if_neg k0, ← List.append_assoc] at E
          have kz : (0 : Int) < (k : Int) := by omega
          have W1 := hid (C.out.write sep (by rw [E, List.length_append, List.length_append, XL, SL'] at M; omega))
          have W2 : Hid (∀ wx, CB w1 w1.heap.size (Ch.jt sp xs k ++ sep.data.toList) wx → Calls Try.prog 24 #[.pointer (some ⟨w1.heap.size, 0, none⟩), .string x] wx fun e w' => e = .returned (.tuple #[.int .i64 x.size, .nilIface]) ∧ CB w1 w1.heap.size (Ch.jt sp xs (k + 1)) w') := fun wx hC => by
            rw [E, ← HSP.out]
            rw [← HSP.out] at hC
            rw [E, List.length_append, XL, ← HSP.out] at M
            exact hC.write x (by omega)
          clear E M XL k0 SL' C0 C
          go_wp2_with fail
          refine W1.out.mono ?_
          rintro e w3 ⟨rfl, hC⟩
          have W3 := hid (W2.out _ hC)
          clear hC W1 W2
          go_wp2_with fail
          refine W3.out.mono ?_
          rintro e w4 ⟨rfl, hC⟩
          have C4 := hid hC
          clear hC W3
          go_wp2_with fail
          go_roundg (xs.length - (k + 1))
          case measure => omega
          case rel => exact ⟨k + 1, by omega, by go_num, C4⟩
      · have kli : ¬ (k : Int) < (xs.length : Int) := by omega
        have kn : k = xs.length := by omega
        have ST := hid C.out.str
        have FF : Hid (∀ w', Below w1.heap.size w1 w' → JoTold sp xs w1 (.returned (.tuple #[.string (Ch.tx (Ch.jt sp xs k)), .int .i64 0])) w') := by rw [kn]; exact F1.out
        clear kn C C0
        generalize Ch.tx (Ch.jt sp xs k) = tt at *
        go_wp2_with fail
        refine ST.out.mono ?_
        rintro e w3 ⟨rfl, hB⟩
        have F2 := hid (FF.out _ hB)
        clear hB ST FF
        go_wp2_with fail
        go_ret2
        exact F2.out
  · have F1 : Hid (JoTold sep.data.toList xs w (.returned (.tuple #[.string ⟨#[]⟩, .int .i64 3])) w) := ⟨by rw [Ch.jS, Ch.jE, if_neg hl, if_neg hl]; rfl, Below.refl _ _⟩
    have LN2 : Hid (Calls Try.prog 22 #[.slice a xs.length cap, .string sep] w fun e w' => (∃ z : Nat, e = .returned (.int .i64 (z : Int)) ∧ (16777216 : Int) < (z : Int)) ∧ w' = w) := by
      refine LN.out.mono ?_
      rintro e w' ⟨z, rfl, hw, _, h1⟩
      exact ⟨⟨z, rfl, by have := (h1 (by omega)).1; omega⟩, hw⟩
    clear h hn hx hs hl LN
    generalize sep.data.toList = sp at *
    go_enter Try.func14, Try.ntmps14
    go_wp2_with fail
    refine LN2.out.mono ?_
    rintro e w1 ⟨⟨z, rfl, hz⟩, hw⟩
    subst hw
    go_wp2_with fail
    go_ret2
    exact F1.out
set_option maxRecDepth 100000 in
theorem ccat_any (a : Option Addr) (cap : Nat) (xs : List ByteArray) (w : World) (h : TR w a xs) (hn : xs.length ≤ 8796093022208) (hx : ∀ i, (xs.getD i ByteArray.empty).size ≤ 140737488355328) :
    Calls Try.prog 15 #[.slice a xs.length cap] w (JoTold [] xs w) := by
  have J : Hid (Calls Try.prog 14 #[.slice a xs.length cap, .string ⟨#[]⟩] w (JoTold [] xs w)) := cjoin_any a cap xs ⟨#[]⟩ w h hn hx (by decide)
  have F1 : Hid (∀ w', JoTold [] xs w (.returned (.tuple #[.string (Ch.jS [] xs), .int .i64 (Ch.jE [] xs)])) w' → JoTold [] xs w (.returned (.tuple #[.string (Ch.jS [] xs), .int .i64 (Ch.jE [] xs)])) w') := fun _ h => h
  clear h hn hx
  go_enter Try.func15, Try.ntmps15
  go_wp2_with fail
  refine J.out.mono ?_
  rintro e w1 ⟨rfl, hB⟩
  have G := hid (F1.out w1 ⟨rfl, hB⟩)
  clear hB J F1
  generalize Ch.jS [] xs = S at *
  generalize Ch.jE [] xs = E at *
  go_wp2_with fail
  go_ret2
  exact G.out
set_option maxRecDepth 100000 in
theorem cindex_any (s t : ByteArray) (w : World) (h : ML w) (hs : s.size < 4294967281) :
    Calls Try.prog 6 #[.string s, .string t] w fun e w' => e = .returned (.int .i64 (Lib.index s.data.toList t.data.toList + 1)) ∧ w' = w := by
  have I := hid (sindex_any s t w h hs)
  have g1 := Lib.index_ge s.data.toList t.data.toList
  have g2 := Lib.index_le s.data.toList t.data.toList
  rw [Ch.size_len] at g2
  clear h
  generalize Lib.index s.data.toList t.data.toList = k at *
  have g3 : k ≤ 4294967281 := by omega
  clear g2 hs
  go_enter Try.func6, Try.ntmps6
  go_wp2_with fail
  refine I.out.mono ?_
  rintro e w1 ⟨rfl, hw⟩
  subst hw
  go_wp2_with fail
  go_ret
  exact ⟨rfl, rfl⟩

theorem bl_cases (c : UInt8) : ((c.toNat : Int) = 32 ∧ Ch.bl c = true) ∨ (((c.toNat : Int) == 32) = false ∧ ¬ (9 : Int) ≤ (c.toNat : Int) ∧ Ch.bl c = false) ∨ (((c.toNat : Int) == 32) = false ∧ (9 : Int) ≤ (c.toNat : Int) ∧ (c.toNat : Int) ≤ 13 ∧ Ch.bl c = true) ∨ (((c.toNat : Int) == 32) = false ∧ (9 : Int) ≤ (c.toNat : Int) ∧ ¬ (c.toNat : Int) ≤ 13 ∧ Ch.bl c = false) := by
  unfold Ch.bl
  by_cases h1 : c.toNat = 32
  · exact .inl ⟨by omega, by simp [h1]⟩
  · by_cases h2 : 9 ≤ c.toNat
    · by_cases h3 : c.toNat ≤ 13
      · exact .inr (.inr (.inl ⟨by simp; omega, by omega, by omega, by simp [h2, h3]⟩))
      · exact .inr (.inr (.inr ⟨by simp; omega, by omega, by omega, by simp [h1, h3]⟩))
    · exact .inr (.inl ⟨by simp; omega, by omega, by simp [h1, h2]⟩)
end Go.Proofs.Ytgliefdefklfeaa
