/-
  Texts put together: DFlags, DBox, DText.
-/
import Derived.Test.YtaadooippelcfaaDoorDMem
namespace Go.Proofs.YtaadooippelcfaaDoor
open Go Go.RowKit Go.Deep Go.Shelf

namespace Dr
theorem ct_drop {p : Int → Bool} {xs : List Int} {k : Nat} (hk : k < xs.length) : ct p (xs.drop k) = if p (nx xs k) = true then ct p (xs.drop (k + 1)) + 1 else 0 := by
  rw [List.drop_eq_getElem_cons hk, ct, nx, List.getD_eq_getElem?_getD, List.getElem?_eq_getElem hk]; rfl
theorem fS_drop {s : Nat} {xs : List Int} {k : Nat} (hk : k < xs.length) : fS s (xs.drop k) = if isF (nx xs k) = true then fS (s ||| 2 ^ (idx marks (nx xs k)).toNat) (xs.drop (k + 1)) else s := by
  rw [List.drop_eq_getElem_cons hk, fS, nx, List.getD_eq_getElem?_getD, List.getElem?_eq_getElem hk]; rfl
theorem dN_drop {n : Int} {xs : List Int} {k : Nat} (hk : k < xs.length) : dN n (xs.drop k) = if isD (nx xs k) = true then dN (min (10 * n + (nx xs k - 48)) 4097) (xs.drop (k + 1)) else n := by
  rw [List.drop_eq_getElem_cons hk, dN, nx, List.getD_eq_getElem?_getD, List.getElem?_eq_getElem hk]; rfl
theorem head_drop (xs : List Int) (k : Nat) : (xs.drop k).headD 0 = nx xs k := by
  rcases Nat.lt_or_ge k xs.length with h | h
  · rw [List.drop_eq_getElem_cons h, nx, List.getD_eq_getElem?_getD, List.getElem?_eq_getElem h]; rfl
  · rw [List.drop_of_length_le h, nx, List.getD_eq_getElem?_getD, List.getElem?_eq_none h]; rfl
theorem getD_pos {xs : List Int} {k : Nat} (h : nx xs k ≠ 0) : k < xs.length := by
  rcases Nat.lt_or_ge k xs.length with c | c
  · exact c
  · exact absurd (by rw [nx, List.getD_eq_getElem?_getD, List.getElem?_eq_none c]; rfl) h
theorem or_lt {s i : Nat} (hs : s < 32) (hi : i < 5) : s ||| 2 ^ i < 32 :=
  Nat.or_lt_two_pow (n := 5) hs (Nat.pow_lt_pow_right (by omega) hi)
theorem fS_lt {s : Nat} (l : List Int) (hs : s < 32) : fS s l < 32 := by
  induction l generalizing s with
  | nil => exact hs
  | cons c l ih =>
    rw [fS]
    split
    · have := idx_lt marks c
      have := idx_ge marks c
      exact ih (or_lt hs (by simp [marks] at *; omega))
    · exact hs
end Dr

/-- What flags tells. -/
def FTold (b : Nat) (s : ByteArray) (l : List Int) (k : Nat) (w : World) (r : Ending) (w' : World) : Prop := r = .returned (.int .i64 (Dr.fS 0 l : Nat)) ∧ RB w' b s (k + Dr.ct Dr.isF l) ∧ Oth b w w'

theorem or_is (t i : Nat) (ht : t < 32) (hi : i < 5) : bits .or .i64 (t : Int) (wrap64 (2 ^ i)) = ((t ||| 2 ^ i : Nat) : Int) := by
  have key : ∀ (t : Fin 32) (i : Fin 5), bits .or .i64 (t.val : Int) (IntKind.i64.wrap (1 * 2 ^ i.val)) = ((t.val ||| 2 ^ i.val : Nat) : Int) := by decide
  have e : wrap64 (2 ^ i) = IntKind.i64.wrap (1 * 2 ^ i) := by
    rw [IntKind.wrap_i64, Int.one_mul, wrap64]
  rw [e]
  exact key ⟨t, ht⟩ ⟨i, hi⟩

set_option maxRecDepth 100000 in
theorem flags_any (b k : Nat) (s : ByteArray) (xs : List Int) (w : World) (hs : Str s xs) (hk : k ≤ xs.length) (hl : xs.length ≤ 4611686018427387904) (h : RB w b s k) :
    Calls Tryd.prog 53 #[.pointer (some ⟨b, 0, none⟩)] w fun r w' => FTold b s (xs.drop k) k w r w' := by
  have NX : Hid (∀ (j : Nat) (W : World), j ≤ xs.length → RB W b s j → Calls Tryd.prog 42 #[.pointer (some ⟨b, 0, none⟩)] W fun e w' => e = .returned (.int .u8 (Dr.nx xs j)) ∧ Below W.heap.size W w') := fun j W hj hb => next_any b j s xs W hs hj hb
  have IX : Hid (∀ (c : Int) (W : World), 0 ≤ c → c < 256 → Calls Tryd.prog 38 #[.string ⟨#[45, 43, 32, 35, 48]⟩, .int .u8 c] W fun e w' => e = .returned (.int .i64 (Dr.idx Dr.marks c)) ∧ w' = W) := fun c W h0 h1 => idx_any ⟨#[45, 43, 32, 35, 48]⟩ Dr.marks c W rfl h0 h1
  have HS := hid hs
  have HL := hid hl
  have HK := hid hk
  have H := hid h
  have S0 : Hid (Dr.fS 0 (xs.drop k) < 32) := Dr.fS_lt _ (by omega)
  clear hs h hl hk
  go_enter Tryd.func53, Tryd.ntmps53
  go_wp2_with fail
  go_loopg [3] (xs.length - k) (fun m i wr => ∃ (j t : Nat), j + m = xs.length ∧ i = .int .i64 (t : Int) ∧ Hid (RB wr b s j ∧ Oth b w wr ∧ k ≤ j ∧ t < 32 ∧ j + Dr.ct Dr.isF (xs.drop j) = k + Dr.ct Dr.isF (xs.drop k) ∧ Dr.fS t (xs.drop j) = Dr.fS 0 (xs.drop k)))
  case atStart => exact ⟨k, 0, by have := HK.out; omega, rfl, H.out, Oth.refl _ _, by omega, by omega, rfl, rfl⟩
  case round =>
    obtain ⟨j, t, hj, rfl, I⟩ := hrel
    have hx : 0 ≤ Dr.nx xs j ∧ Dr.nx xs j < 256 := HS.out.atb j
    have hjl : (j : Int) ≤ 4611686018427387904 := by have := HL.out; omega
    go_wp2_with fail
    refine (NX.out j wr (by omega) I.out.1).mono ?_
    rintro e w1 ⟨rfl, hB⟩
    have R1 := hid (I.out.1.below hB)
    have O1 := hid (I.out.2.1.trans (Oth.of_below hB))
    clear hB
    go_wp2_with fail
    refine (IX.out _ w1 hx.1 hx.2).mono ?_
    rintro e w2 ⟨rfl, e2⟩
    rw [e2]
    clear e2 w2
    by_cases hf : Dr.isF (Dr.nx xs j) = true
    · have hlt : j < xs.length := Dr.getD_pos (by rcases Dr.isF_cases.1 hf with h | h | h | h | h <;> rw [h] <;> decide)
      obtain ⟨i, hi⟩ : ∃ i : Nat, Dr.idx Dr.marks (Dr.nx xs j) = (i : Int) := ⟨_, (Int.toNat_of_nonneg (by simpa [Dr.isF] using hf)).symm⟩
      have i5 : i < 5 := by have := Dr.idx_lt Dr.marks (Dr.nx xs j); rw [hi] at this; simp [Dr.marks] at this; omega
      have J : Hid (∀ W, RB W b s (j + 1) → Oth b w W → RB W b s (j + 1) ∧ Oth b w W ∧ k ≤ j + 1 ∧ t ||| 2 ^ i < 32 ∧ j + 1 + Dr.ct Dr.isF (xs.drop (j + 1)) = k + Dr.ct Dr.isF (xs.drop k) ∧ Dr.fS (t ||| 2 ^ i) (xs.drop (j + 1)) = Dr.fS 0 (xs.drop k)) := by
        intro W a1 a2
        obtain ⟨_, _, q1, q2, q3, q4⟩ := I.out
        rw [Dr.ct_drop hlt, if_pos hf] at q3
        rw [Dr.fS_drop hlt, if_pos hf, hi] at q4
        exact ⟨a1, a2, by omega, Dr.or_lt q2 i5, by omega, q4⟩
      have T32 := hid I.out.2.2.2.1
      rw [hi]
      have ii : ¬ (i : Int) < 0 := by omega
      clear I hx
      obtain ⟨⟨c0, c1⟩, fz⟩ := R1.out.cells
      have i64 : (i : Int) ≤ 64 := by omega
      go_wp2_with fail
      go_roundg (xs.length - (j + 1))
      case measure => omega
      case rel =>
        refine ⟨j + 1, t ||| 2 ^ i, by omega, ?_, J.out _ (R1.out.set (by go_num)) (O1.out.trans (Oth.set _ _))⟩
        rw [← or_is t i T32.out i5]
    · have K : Hid (FTold b s (xs.drop k) k w (.returned (.int .i64 (t : Int))) w1) := by
        obtain ⟨_, _, q1, q2, q3, q4⟩ := I.out
        have c0 : Dr.ct Dr.isF (xs.drop j) = 0 := Dr.ct_zero (by rw [Dr.head_drop]; simpa using hf)
        have f0 : Dr.fS t (xs.drop j) = t := Dr.fS_stop (by rw [Dr.head_drop]; simpa using hf)
        rw [c0] at q3
        rw [f0] at q4
        exact ⟨by rw [q4], by rw [← q3]; exact R1.out, O1.out⟩
      have ii : Dr.idx Dr.marks (Dr.nx xs j) < 0 := by simpa [Dr.isF] using hf
      generalize Dr.idx Dr.marks (Dr.nx xs j) = i at *
      clear I hx
      go_wp2_with fail
      go_ret
      exact K.out

/-- What number tells. -/
def NTold (b : Nat) (s : ByteArray) (l : List Int) (k : Nat) (w : World) (r : Ending) (w' : World) : Prop := r = .returned (.tuple #[.int .i64 (Dr.nk l), .int .i64 (Dr.nv l), .int .i64 (Dr.ne l)]) ∧ RB w' b s (k + Dr.nu l) ∧ Oth b w w'

theorem Dr.dN_stop {n : Int} {r : List Int} (h : Dr.isD (r.headD 0) = false) : Dr.dN n r = n := by
  cases r with
  | nil => rfl
  | cons c l => rw [Dr.dN, if_neg (by simp only [List.headD_cons] at h; rw [h]; simp)]
theorem dN_bd {n : Int} (l : List Int) (h0 : 0 ≤ n) (h1 : n ≤ 4097) : 0 ≤ Dr.dN n l ∧ Dr.dN n l ≤ 4097 := by
  induction l generalizing n with
  | nil => exact ⟨h0, h1⟩
  | cons c l ih =>
    rw [Dr.dN]
    split
    · rename_i h
      have := Dr.isD_iff.1 h
      exact ih (by omega) (by omega)
    · exact ⟨h0, h1⟩

set_option maxRecDepth 100000 in
theorem number_any (b k : Nat) (s : ByteArray) (xs : List Int) (w : World) (hs : Str s xs) (hk : k ≤ xs.length) (hl : xs.length ≤ 4611686018427387904) (h : RB w b s k) :
    Calls Tryd.prog 54 #[.pointer (some ⟨b, 0, none⟩)] w fun r w' => NTold b s (xs.drop k) k w r w' := by
  have NX : Hid (∀ (j : Nat) (W : World), j ≤ xs.length → RB W b s j → Calls Tryd.prog 42 #[.pointer (some ⟨b, 0, none⟩)] W fun e w' => e = .returned (.int .u8 (Dr.nx xs j)) ∧ Below W.heap.size W w') := fun j W hj hb => next_any b j s xs W hs hj hb
  have HS := hid hs
  have HL := hid hl
  have HK := hid hk
  have H := hid h
  have hkl : (k : Int) ≤ 4611686018427387904 := by omega
  have HH := Dr.head_drop xs k
  clear hs h hl hk
  go_enter Tryd.func54, Tryd.ntmps54
  go_wp2_with fail
  refine (NX.out k w HK.out H.out).mono ?_
  rintro e w1 ⟨rfl, hB⟩
  have R1 := hid (H.out.below hB)
  have O1 : Hid (Oth b w w1) := Oth.of_below hB
  clear hB
  by_cases h42 : Dr.nx xs k = 42
  · have K : Hid (∀ W, RB W b s (k + 1) → Oth b w W → NTold b s (xs.drop k) k w (.returned (.tuple #[.int .i64 2, .int .i64 0, .int .i64 0])) W) := by
      intro W a1 a2
      rw [h42] at HH
      refine ⟨?_, ?_, a2⟩
      · rw [Dr.nk, Dr.nv, Dr.ne, if_pos HH, if_pos HH, if_pos HH]
      · rw [Dr.nu, if_pos HH]; exact a1
    obtain ⟨⟨c0, c1⟩, fz⟩ := R1.out.cells
    clear HH
    go_wp2_with fail
    go_ret3
    exact K.out _ (R1.out.set (by go_num)) (O1.out.trans (Oth.set _ _))
  · rw [← HH] at h42
    have H42 := hid h42
    rw [HH] at h42
    obtain ⟨⟨c0, c1⟩, fz⟩ := R1.out.cells
    clear HH
    go_wp2_with fail
    clear c0 c1 fz h42
    generalize (Dr.nx xs k == 42) = q9
    go_loopg [6] (xs.length - k) (fun m i wr => ∃ (j : Nat) (v : Int), j + m = xs.length ∧ i = .int .i64 v ∧ Hid (RB wr b s j ∧ Oth b w wr ∧ k ≤ j ∧ 0 ≤ v ∧ v ≤ 4097 ∧ j + Dr.ct Dr.isD (xs.drop j) = k + Dr.ct Dr.isD (xs.drop k) ∧ Dr.dN v (xs.drop j) = Dr.dN 0 (xs.drop k)))
    case atStart => exact ⟨k, 0, by have := HK.out; omega, rfl, R1.out, O1.out, by omega, by omega, by omega, rfl, rfl⟩
    case round =>
      obtain ⟨j, v, hj, rfl, I⟩ := hrel
      have hx : 0 ≤ Dr.nx xs j ∧ Dr.nx xs j < 256 := HS.out.atb j
      have hjl : (j : Int) ≤ 4611686018427387904 := by have := HL.out; omega
      have v0 := I.out.2.2.2.1
      have v1 := I.out.2.2.2.2.1
      go_wp2_with fail
      refine (NX.out j wr (by omega) I.out.1).mono ?_
      rintro e w2 ⟨rfl, hB⟩
      have R2 := hid (I.out.1.below hB)
      have O2 := hid (I.out.2.1.trans (Oth.of_below hB))
      clear hB
      by_cases hd : Dr.isD (Dr.nx xs j) = true
      · have hlt : j < xs.length := Dr.getD_pos (by have := Dr.isD_iff.1 hd; omega)
        have J : Hid (∀ W, RB W b s (j + 1) → Oth b w W → RB W b s (j + 1) ∧ Oth b w W ∧ k ≤ j + 1 ∧ 0 ≤ min (10 * v + (Dr.nx xs j - 48)) 4097 ∧ min (10 * v + (Dr.nx xs j - 48)) 4097 ≤ 4097 ∧ j + 1 + Dr.ct Dr.isD (xs.drop (j + 1)) = k + Dr.ct Dr.isD (xs.drop k) ∧ Dr.dN (min (10 * v + (Dr.nx xs j - 48)) 4097) (xs.drop (j + 1)) = Dr.dN 0 (xs.drop k)) := by
          intro W a1 a2
          obtain ⟨_, _, q1, _, _, q3, q4⟩ := I.out
          have := Dr.isD_iff.1 hd
          rw [Dr.ct_drop hlt, if_pos hd] at q3
          rw [Dr.dN_drop hlt, if_pos hd] at q4
          exact ⟨a1, a2, by omega, by omega, by omega, by omega, q4⟩
        have N2 : Hid (∀ W, RB W b s j → Calls Tryd.prog 42 #[.pointer (some ⟨b, 0, none⟩)] W fun e w' => e = .returned (.int .u8 (Dr.nx xs j)) ∧ Below W.heap.size W w') := fun W hb => NX.out j W (by omega) hb
        obtain ⟨d0, d1⟩ := Dr.isD_iff.1 hd
        clear I hd
        generalize Dr.nx xs j = x at *
        have W8 : IntKind.u8.wrap (x - 48) = x - 48 := by rw [IntKind.wrap_u8]; omega
        go_wp2_with fail
        refine (N2.out w2 R2.out).mono ?_
        rintro e w3 ⟨rfl, hB⟩
        have R3 := hid (R2.out.below hB)
        have O3 := hid (O2.out.trans (Oth.of_below hB))
        clear hB
        go_wp2_with fail
        refine (N2.out w3 R3.out).mono ?_
        rintro e w4 ⟨rfl, hB⟩
        have R4 := hid (R3.out.below hB)
        have O4 := hid (O3.out.trans (Oth.of_below hB))
        clear hB
        obtain ⟨⟨c0, c1⟩, fz⟩ := R4.out.cells
        have vb : (-9223372036854775808 : Int) ≤ 10 * v + (x - 48) := by omega
        have vc : 10 * v + (x - 48) ≤ (9223372036854775807 : Int) := by omega
        go_wp2_with fail
        go_roundg (xs.length - (j + 1))
        case measure => omega
        case rel =>
          exact ⟨j + 1, min (10 * v + (x - 48)) 4097, by omega, rfl, J.out _ (R4.out.set (by go_num)) (O4.out.trans (Oth.set _ _))⟩
      · have C0 : Hid (j = k + Dr.ct Dr.isD (xs.drop k) ∧ v = Dr.dN 0 (xs.drop k) ∧ k ≤ j) := by
          obtain ⟨_, _, q1, _, _, q3, q4⟩ := I.out
          have c0 : Dr.ct Dr.isD (xs.drop j) = 0 := Dr.ct_zero (by rw [Dr.head_drop]; simpa using hd)
          have f0 : Dr.dN v (xs.drop j) = v := by
            have := Dr.dN_stop (n := v) (r := xs.drop j) (by rw [Dr.head_drop]; simpa using hd)
            exact this
          rw [c0] at q3
          rw [f0] at q4
          exact ⟨by omega, q4, q1⟩
        have K0 : Hid (j = k → ∀ W, RB W b s j → Oth b w W → NTold b s (xs.drop k) k w (.returned (.tuple #[.int .i64 0, .int .i64 0, .int .i64 0])) W) := by
          intro e W a1 a2
          have c0 : Dr.ct Dr.isD (xs.drop k) = 0 := by have := C0.out.1; omega
          refine ⟨?_, ?_, a2⟩
          · rw [Dr.nk, Dr.nv, Dr.ne, if_neg H42.out, if_neg H42.out, if_neg H42.out, if_pos c0, if_pos c0, if_pos c0]
          · rw [Dr.nu, if_neg H42.out, if_pos c0]; rw [e] at a1; exact a1
        have K1 : Hid (¬ j = k → 4096 < v → ∀ W, RB W b s k → Oth b w W → NTold b s (xs.drop k) k w (.returned (.tuple #[.int .i64 0, .int .i64 0, .int .i64 6])) W) := by
          intro e e2 W a1 a2
          have c0 : ¬ Dr.ct Dr.isD (xs.drop k) = 0 := by have := C0.out.1; omega
          rw [C0.out.2.1] at e2
          refine ⟨?_, ?_, a2⟩
          · rw [Dr.nk, Dr.nv, Dr.ne, if_neg H42.out, if_neg H42.out, if_neg H42.out, if_neg c0, if_neg c0, if_neg c0, if_pos e2, if_pos e2, if_pos e2]
          · rw [Dr.nu, if_neg H42.out, if_neg c0, if_pos e2]; exact a1
        have K2 : Hid (¬ j = k → ¬ 4096 < v → ∀ W, RB W b s j → Oth b w W → NTold b s (xs.drop k) k w (.returned (.tuple #[.int .i64 1, .int .i64 v, .int .i64 0])) W) := by
          intro e e2 W a1 a2
          have c0 : ¬ Dr.ct Dr.isD (xs.drop k) = 0 := by have := C0.out.1; omega
          have hv := C0.out.2.1
          rw [hv] at e2 ⊢
          refine ⟨?_, ?_, a2⟩
          · rw [Dr.nk, Dr.nv, Dr.ne, if_neg H42.out, if_neg H42.out, if_neg H42.out, if_neg c0, if_neg c0, if_neg c0, if_neg e2, if_neg e2, if_neg e2]
          · rw [Dr.nu, if_neg H42.out, if_neg c0, if_neg e2, ← C0.out.1]; exact a1
        have N2 : Hid (∀ W, RB W b s j → Calls Tryd.prog 42 #[.pointer (some ⟨b, 0, none⟩)] W fun e w' => e = .returned (.int .u8 (Dr.nx xs j)) ∧ Below W.heap.size W w') := fun W hb => NX.out j W (by omega) hb
        have hd2 : ¬ (48 ≤ Dr.nx xs j ∧ Dr.nx xs j ≤ 57) := fun q => hd (Dr.isD_iff.2 q)
        have kj := C0.out.2.2
        clear I hd C0
        generalize Dr.nx xs j = x at *
        by_cases d0 : 48 ≤ x
        · have d1 : ¬ x ≤ 57 := fun q => hd2 ⟨d0, q⟩
          clear hd2
          go_wp2_with fail
          refine (N2.out w2 R2.out).mono ?_
          rintro e w3 ⟨rfl, hB⟩
          have R3 := hid (R2.out.below hB)
          have O3 := hid (O2.out.trans (Oth.of_below hB))
          clear hB
          obtain ⟨⟨c0, c1⟩, fz⟩ := R3.out.cells
          by_cases hjk : j = k
          · have hjk2 : (j : Int) = (k : Int) := by omega
            go_wp2_with fail
            go_ret3
            exact K0.out hjk _ R3.out O3.out
          · have hjk2 : ¬ (j : Int) = (k : Int) := by omega
            by_cases hv : 4096 < v
            · go_wp2_with fail
              go_ret3
              exact K1.out hjk hv _ (R3.out.set rfl) (O3.out.trans (Oth.set _ _))
            · go_wp2_with fail
              go_ret3
              exact K2.out hjk hv _ R3.out O3.out
        · clear hd2
          obtain ⟨⟨c0, c1⟩, fz⟩ := R2.out.cells
          by_cases hjk : j = k
          · have hjk2 : (j : Int) = (k : Int) := by omega
            go_wp2_with fail
            go_ret3
            exact K0.out hjk _ R2.out O2.out
          · have hjk2 : ¬ (j : Int) = (k : Int) := by omega
            by_cases hv : 4096 < v
            · go_wp2_with fail
              go_ret3
              exact K1.out hjk hv _ (R2.out.set rfl) (O2.out.trans (Oth.set _ _))
            · go_wp2_with fail
              go_ret3
              exact K2.out hjk hv _ R2.out O2.out
end Go.Proofs.YtaadooippelcfaaDoor

namespace Go.Proofs.YtaadooippelcfaaDoor
open Go Go.RowKit Go.Deep Go.Shelf

theorem dset1 {w : World} {b o t : Nat} {v : Value} {c c' : Array Value} (h : w.heap[b]? = some (.cells c t (0, 0))) (e : c.setIfInBounds o v = c') : (w.setCell ⟨b, o, none⟩ v).heap[b]? = some (.cells c' t (0, 0)) := by
  subst e
  simp [World.setCell, Array.getElem?_modify, h]

/-- Seven cells that may be written. -/
def P7 (w : World) (b : Nat) (v0 v1 v2 v3 v4 v5 v6 : Value) : Prop := w.heap[b]? = some (.cells #[v0, v1, v2, v3, v4, v5, v6] 25 (0, 0))
theorem P7.new (w : World) (v0 v1 v2 v3 v4 v5 v6 : Value) : P7 (w.alloc (.cells #[v0, v1, v2, v3, v4, v5, v6] 25)) w.heap.size v0 v1 v2 v3 v4 v5 v6 := heap_alloc_new w _
theorem P7.lt {w : World} {b : Nat} {v0 v1 v2 v3 v4 v5 v6 : Value} (h : P7 w b v0 v1 v2 v3 v4 v5 v6) : b < w.heap.size := by
  rcases Nat.lt_or_ge b w.heap.size with hl | hl
  · exact hl
  · simp [P7, Array.getElem?_eq_none hl] at h
theorem P7.below {w w' : World} {b : Nat} {v0 v1 v2 v3 v4 v5 v6 : Value} (h : P7 w b v0 v1 v2 v3 v4 v5 v6) (hB : Below w.heap.size w w') : P7 w' b v0 v1 v2 v3 v4 v5 v6 := by
  rw [P7, hB.block b h.lt]; exact h
theorem P7.oth {w w' : World} {g b : Nat} {v0 v1 v2 v3 v4 v5 v6 : Value} (h : P7 w b v0 v1 v2 v3 v4 v5 v6) (k : Oth g w w') (hg : b ≠ g) : P7 w' b v0 v1 v2 v3 v4 v5 v6 := by
  rw [P7, k.block b h.lt hg]; exact h
theorem P7.cells {w : World} {b : Nat} {v0 v1 v2 v3 v4 v5 v6 : Value} (h : P7 w b v0 v1 v2 v3 v4 v5 v6) :
    (w.cell? ⟨b, 0, none⟩ = some v0 ∧ w.cell? ⟨b, 1, none⟩ = some v1 ∧ w.cell? ⟨b, 2, none⟩ = some v2 ∧ w.cell? ⟨b, 3, none⟩ = some v3 ∧ w.cell? ⟨b, 4, none⟩ = some v4 ∧ w.cell? ⟨b, 5, none⟩ = some v5 ∧ w.cell? ⟨b, 6, none⟩ = some v6) ∧
    (w.frozen? ⟨b, 0, none⟩ = false ∧ w.frozen? ⟨b, 1, none⟩ = false ∧ w.frozen? ⟨b, 2, none⟩ = false ∧ w.frozen? ⟨b, 3, none⟩ = false ∧ w.frozen? ⟨b, 4, none⟩ = false ∧ w.frozen? ⟨b, 5, none⟩ = false ∧ w.frozen? ⟨b, 6, none⟩ = false) := by
  simp only [P7] at h
  refine ⟨⟨?_, ?_, ?_, ?_, ?_, ?_, ?_⟩, ⟨?_, ?_, ?_, ?_, ?_, ?_, ?_⟩⟩ <;> simp [World.cell?, World.frozen?, h]
theorem P7.far {w : World} {b c o : Nat} {v v0 v1 v2 v3 v4 v5 v6 : Value} (h : P7 w b v0 v1 v2 v3 v4 v5 v6) (hc : c ≠ b) : P7 (w.setCell ⟨c, o, none⟩ v) b v0 v1 v2 v3 v4 v5 v6 := by
  simp only [P7] at *
  simp only [World.setCell, Array.getElem?_modify]
  rw [if_neg hc]; exact h
theorem P7.s1 {w : World} {b : Nat} {v v0 v1 v2 v3 v4 v5 v6 : Value} (h : P7 w b v0 v1 v2 v3 v4 v5 v6) : P7 (w.setCell ⟨b, 1, none⟩ v) b v0 v v2 v3 v4 v5 v6 := dset1 h rfl
theorem P7.s2 {w : World} {b : Nat} {v v0 v1 v2 v3 v4 v5 v6 : Value} (h : P7 w b v0 v1 v2 v3 v4 v5 v6) : P7 (w.setCell ⟨b, 2, none⟩ v) b v0 v1 v v3 v4 v5 v6 := dset1 h rfl
theorem P7.s3 {w : World} {b : Nat} {v v0 v1 v2 v3 v4 v5 v6 : Value} (h : P7 w b v0 v1 v2 v3 v4 v5 v6) : P7 (w.setCell ⟨b, 3, none⟩ v) b v0 v1 v2 v v4 v5 v6 := dset1 h rfl
theorem P7.s4 {w : World} {b : Nat} {v v0 v1 v2 v3 v4 v5 v6 : Value} (h : P7 w b v0 v1 v2 v3 v4 v5 v6) : P7 (w.setCell ⟨b, 4, none⟩ v) b v0 v1 v2 v3 v v5 v6 := dset1 h rfl
theorem P7.s5 {w : World} {b : Nat} {v v0 v1 v2 v3 v4 v5 v6 : Value} (h : P7 w b v0 v1 v2 v3 v4 v5 v6) : P7 (w.setCell ⟨b, 5, none⟩ v) b v0 v1 v2 v3 v4 v v6 := dset1 h rfl
theorem P7.s6 {w : World} {b : Nat} {v v0 v1 v2 v3 v4 v5 v6 : Value} (h : P7 w b v0 v1 v2 v3 v4 v5 v6) : P7 (w.setCell ⟨b, 6, none⟩ v) b v0 v1 v2 v3 v4 v5 v := dset1 h rfl
theorem P7.put {w : World} {b : Nat} {v0 v1 v2 v3 v4 v5 v6 : Value} (h : P7 w b v0 v1 v2 v3 v4 v5 v6) (u0 u1 u2 u3 u4 u5 u6 : Value) :
    P7 (((((((w.setCell ⟨b, 0, none⟩ u0).setCell ⟨b, 1, none⟩ u1).setCell ⟨b, 2, none⟩ u2).setCell ⟨b, 3, none⟩ u3).setCell ⟨b, 4, none⟩ u4).setCell ⟨b, 5, none⟩ u5).setCell ⟨b, 6, none⟩ u6) b u0 u1 u2 u3 u4 u5 u6 := by
  have h0 : P7 (w.setCell ⟨b, 0, none⟩ u0) b u0 v1 v2 v3 v4 v5 v6 := dset1 h rfl
  exact h0.s1.s2.s3.s4.s5.s6

theorem RB.far {w : World} {b c o k : Nat} {s : ByteArray} {v : Value} (h : RB w b s k) (hc : c ≠ b) : RB (w.setCell ⟨c, o, none⟩ v) b s k := by
  simp only [RB] at *
  simp only [World.setCell, Array.getElem?_modify]
  rw [if_neg hc]; exact h

/-- The state of a reading function: the reader, what has stayed, the result's box, the piece's box. -/
structure DS (w : World) (b : Nat) (s : ByteArray) (j : Nat) (v0 v1 v2 v3 v4 v5 v6 : Value) (wx : World) : Prop where
  rb : RB wx b s j
  bl : b < w.heap.size
  os : wx.os = w.os
  tape : wx.tape = w.tape
  output : wx.output = w.output
  size : w.heap.size ≤ wx.heap.size
  block : ∀ j, j < w.heap.size → j ≠ b → wx.heap[j]? = w.heap[j]?
  res : P7 wx w.heap.size (.string ⟨#[]⟩) (.int .u8 0) (.int .i64 0) (.int .i64 0) (.int .i64 0) (.int .i64 0) (.int .i64 0)
  box : P7 wx (w.heap.size + 1) v0 v1 v2 v3 v4 v5 v6

theorem DS.call {w wx wy : World} {b j j' : Nat} {s : ByteArray} {v0 v1 v2 v3 v4 v5 v6 : Value} (h : DS w b s j v0 v1 v2 v3 v4 v5 v6 wx) (r : RB wy b s j') (k : Oth b wx wy) : DS w b s j' v0 v1 v2 v3 v4 v5 v6 wy :=
  have := h.bl
  ⟨r, h.bl, k.os.trans h.os, k.tape.trans h.tape, k.output.trans h.output, Nat.le_trans h.size k.size, fun i hi hb => (k.block i (Nat.lt_of_lt_of_le hi h.size) hb).trans (h.block i hi hb), h.res.oth k (by omega), h.box.oth k (by omega)⟩
theorem DS.set {w wx : World} {b j o : Nat} {s : ByteArray} {v v0 v1 v2 v3 v4 v5 v6 u0 u1 u2 u3 u4 u5 u6 : Value} (h : DS w b s j v0 v1 v2 v3 v4 v5 v6 wx) (k : P7 wx (w.heap.size + 1) v0 v1 v2 v3 v4 v5 v6 → P7 (wx.setCell ⟨w.heap.size + 1, o, none⟩ v) (w.heap.size + 1) u0 u1 u2 u3 u4 u5 u6) : DS w b s j u0 u1 u2 u3 u4 u5 u6 (wx.setCell ⟨w.heap.size + 1, o, none⟩ v) := by
  have hb := h.bl
  refine ⟨h.rb.far (by omega), h.bl, h.os, h.tape, h.output, by simp [World.setCell]; exact h.size, fun i hi hne => ?_, h.res.far (by omega), k h.box⟩
  rw [← h.block i hi hne]
  simp only [World.setCell, Array.getElem?_modify]
  rw [if_neg (by omega)]
theorem DS.oth {w wx : World} {b j : Nat} {s : ByteArray} {v0 v1 v2 v3 v4 v5 v6 : Value} (h : DS w b s j v0 v1 v2 v3 v4 v5 v6 wx) : Oth b w wx := ⟨h.os, h.tape, h.output, h.size, h.block⟩
theorem Oth.far {w wx : World} {g b o : Nat} {v : Value} (h : Oth b w wx) (hg : w.heap.size ≤ g) : Oth b w (wx.setCell ⟨g, o, none⟩ v) := by
  refine ⟨h.os, h.tape, h.output, by simp [World.setCell]; exact h.size, fun i hi hne => ?_⟩
  rw [← h.block i hi hne]
  simp only [World.setCell, Array.getElem?_modify]
  rw [if_neg (by omega)]
/-- The end: the result's box is written. -/
theorem DS.fin {w wx : World} {b j : Nat} {s : ByteArray} {v0 v1 v2 v3 v4 v5 v6 : Value} (h : DS w b s j v0 v1 v2 v3 v4 v5 v6 wx) (u0 u1 u2 u3 u4 u5 u6 : Value) :
    P7 (((((((wx.setCell ⟨w.heap.size, 0, none⟩ u0).setCell ⟨w.heap.size, 1, none⟩ u1).setCell ⟨w.heap.size, 2, none⟩ u2).setCell ⟨w.heap.size, 3, none⟩ u3).setCell ⟨w.heap.size, 4, none⟩ u4).setCell ⟨w.heap.size, 5, none⟩ u5).setCell ⟨w.heap.size, 6, none⟩ u6) w.heap.size u0 u1 u2 u3 u4 u5 u6 ∧
    RB (((((((wx.setCell ⟨w.heap.size, 0, none⟩ u0).setCell ⟨w.heap.size, 1, none⟩ u1).setCell ⟨w.heap.size, 2, none⟩ u2).setCell ⟨w.heap.size, 3, none⟩ u3).setCell ⟨w.heap.size, 4, none⟩ u4).setCell ⟨w.heap.size, 5, none⟩ u5).setCell ⟨w.heap.size, 6, none⟩ u6) b s j ∧
    Oth b w (((((((wx.setCell ⟨w.heap.size, 0, none⟩ u0).setCell ⟨w.heap.size, 1, none⟩ u1).setCell ⟨w.heap.size, 2, none⟩ u2).setCell ⟨w.heap.size, 3, none⟩ u3).setCell ⟨w.heap.size, 4, none⟩ u4).setCell ⟨w.heap.size, 5, none⟩ u5).setCell ⟨w.heap.size, 6, none⟩ u6) := by
  have hb := h.bl
  have ne : w.heap.size ≠ b := by omega
  have le : w.heap.size ≤ w.heap.size := Nat.le_refl _
  exact ⟨h.res.put _ _ _ _ _ _ _, ((((((h.rb.far ne).far ne).far ne).far ne).far ne).far ne).far ne, ((((((h.oth.far le).far le).far le).far le).far le).far le).far le⟩

/-- A piece's cells. -/
def pcv (p : Dr.Pc) : Array Value := #[.string (strOfNums p.t), .int .u8 p.v, .int .i64 p.fl, .int .i64 p.wk, .int .i64 p.wd, .int .i64 p.pk, .int .i64 p.pr]
theorem str_nil1 : strOfNums [] = ⟨#[]⟩ := rfl
theorem pcv_no : pcv Dr.Pc.no = #[.string ⟨#[]⟩, .int .u8 0, .int .i64 0, .int .i64 0, .int .i64 0, .int .i64 0, .int .i64 0] := rfl

/-- What precision tells. -/
def PTold (b : Nat) (s : ByteArray) (l : List Int) (k : Nat) (w : World) (r : Ending) (w' : World) : Prop := r = .returned (.tuple #[.int .i64 (Dr.pk l), .int .i64 (Dr.pv l), .int .i64 (Dr.pe l)]) ∧ RB w' b s (k + Dr.pu l) ∧ Oth b w w'

set_option maxRecDepth 100000 in
theorem precision_any (b k : Nat) (s : ByteArray) (xs : List Int) (w : World) (hs : Str s xs) (hk : k ≤ xs.length) (hl : xs.length ≤ 4611686018427387904) (h : RB w b s k) :
    Calls Tryd.prog 55 #[.pointer (some ⟨b, 0, none⟩)] w fun r w' => PTold b s (xs.drop k) k w r w' := by
  have N := hid (next_any b k s xs w hs hk h)
  have HH : Hid ((xs.drop k).headD 0 = Dr.nx xs k) := Dr.head_drop xs k
  have hkl : (k : Int) ≤ 4611686018427387904 := by omega
  have H := hid h
  by_cases h46 : Dr.nx xs k = 46
  · have hlt : k < xs.length := Dr.getD_pos (by rw [h46]; decide)
    have NU : Hid (∀ W, RB W b s (k + 1) → Calls Tryd.prog 54 #[.pointer (some ⟨b, 0, none⟩)] W fun r w' => r = .returned (.tuple #[.int .i64 (Dr.nk (xs.drop (k + 1))), .int .i64 (Dr.nv (xs.drop (k + 1))), .int .i64 (Dr.ne (xs.drop (k + 1)))]) ∧ RB w' b s (k + 1 + Dr.nu (xs.drop (k + 1))) ∧ Oth b W w') := fun W hb => number_any b (k + 1) s xs W hs (by omega) hl hb
    have tl : (xs.drop k).tail = xs.drop (k + 1) := by rw [List.tail_drop]
    have KK : Hid (∀ (r : Int) W, r = (if Dr.ne (xs.drop (k + 1)) = 0 ∧ Dr.nk (xs.drop (k + 1)) = 0 then 1 else Dr.nk (xs.drop (k + 1))) → RB W b s (k + 1 + Dr.nu (xs.drop (k + 1))) → Oth b w W → PTold b s (xs.drop k) k w (.returned (.tuple #[.int .i64 r, .int .i64 (Dr.nv (xs.drop (k + 1))), .int .i64 (Dr.ne (xs.drop (k + 1)))])) W) := by
      intro r W e a1 a2
      have hh := HH.out
      rw [h46] at hh
      refine ⟨?_, ?_, a2⟩
      · rw [Dr.pk, Dr.pv, Dr.pe, if_pos hh, if_pos hh, if_pos hh, tl, e]
      · rw [Dr.pu, if_pos hh, tl, ← Nat.add_assoc]; exact a1
    rw [h46] at N
    clear HH h46 hs h hlt tl
    generalize Dr.nk (xs.drop (k + 1)) = K1 at *
    generalize Dr.nv (xs.drop (k + 1)) = V1 at *
    generalize Dr.ne (xs.drop (k + 1)) = E1 at *
    generalize k + 1 + Dr.nu (xs.drop (k + 1)) = j1 at *
    go_enter Tryd.func55, Tryd.ntmps55
    go_wp2_with fail
    refine N.out.mono ?_
    rintro e w1 ⟨rfl, hB⟩
    have R1 := hid (H.out.below hB)
    have O1 : Hid (Oth b w w1) := Oth.of_below hB
    clear hB
    obtain ⟨⟨c0, c1⟩, fz⟩ := R1.out.cells
    go_wp2_with fail
    refine (NU.out _ (R1.out.set (by go_num))).mono ?_
    rintro e w2 ⟨rfl, r2, o2⟩
    have R2 := hid r2
    have O2 := hid ((O1.out.trans (Oth.set _ _)).trans o2)
    clear r2 o2 c0 c1 fz
    by_cases e1 : E1 = 0
    · subst e1
      by_cases k1 : K1 = 0
      · subst k1
        go_wp2_with fail
        go_ret3
        exact KK.out 1 _ (by simp) R2.out O2.out
      · go_wp2_with fail
        go_ret3
        exact KK.out K1 _ (by simp [k1]) R2.out O2.out
    · go_wp2_with fail
      go_ret3
      exact KK.out K1 _ (by simp [e1]) R2.out O2.out
  · have KK : Hid (∀ W, RB W b s k → Oth b w W → PTold b s (xs.drop k) k w (.returned (.tuple #[.int .i64 0, .int .i64 0, .int .i64 0])) W) := by
      intro W a1 a2
      have hh : ¬ (xs.drop k).headD 0 = 46 := by rw [HH.out]; exact h46
      refine ⟨?_, ?_, a2⟩
      · rw [Dr.pk, Dr.pv, Dr.pe, if_neg hh, if_neg hh, if_neg hh]
      · rw [Dr.pu, if_neg hh]; exact a1
    clear HH hs h
    generalize Dr.nx xs k = x at *
    go_enter Tryd.func55, Tryd.ntmps55
    go_wp2_with fail
    refine N.out.mono ?_
    rintro e w1 ⟨rfl, hB⟩
    have R1 := hid (H.out.below hB)
    have O1 : Hid (Oth b w w1) := Oth.of_below hB
    clear hB
    go_wp2_with fail
    go_ret3
    exact KK.out _ R1.out O1.out

/-- What verb tells. -/
def VTold (b : Nat) (s : ByteArray) (l : List Int) (k : Nat) (w : World) (r : Ending) (w' : World) : Prop := r = .returned (.tuple #[.int .u8 (Dr.vv l), .int .i64 (Dr.ve l)]) ∧ RB w' b s (k + Dr.vu l) ∧ Oth b w w'

theorem Oth.drew {g : Nat} {a b : World} (h : Oth g a b) (n : Nat) : Oth g a (b.drewN n) := ⟨h.os, h.tape, h.output, h.size, h.block⟩

set_option maxRecDepth 100000 in
theorem verb_any (b k : Nat) (s : ByteArray) (xs : List Int) (w : World) (hs : Str s xs) (hk : k ≤ xs.length) (hl : xs.length ≤ 4611686018427387904) (h : RB w b s k) :
    Calls Tryd.prog 56 #[.pointer (some ⟨b, 0, none⟩)] w fun r w' => VTold b s (xs.drop k) k w r w' := by
  have N := hid (next_any b k s xs w hs hk h)
  have IX : Hid (∀ (c : Int) (W : World), 0 ≤ c → c < 256 → Calls Tryd.prog 38 #[.string ⟨#[100, 105, 111, 117, 120, 88, 99, 115, 101, 69, 102, 70, 103, 71]⟩, .int .u8 c] W fun e w' => e = .returned (.int .i64 (Dr.idx Dr.verbs c)) ∧ w' = W) := fun c W h0 h1 => idx_any ⟨#[100, 105, 111, 117, 120, 88, 99, 115, 101, 69, 102, 70, 103, 71]⟩ Dr.verbs c W rfl h0 h1
  have HH : Hid ((xs.drop k).headD 0 = Dr.nx xs k) := Dr.head_drop xs k
  have hkl : (k : Int) ≤ 4611686018427387904 := by omega
  have hx : 0 ≤ Dr.nx xs k ∧ Dr.nx xs k < 256 := hs.atb k
  obtain ⟨x0, x1⟩ := hx
  have hsz := hs.size
  have H := hid h
  have E : Hid (∀ W, xs.drop k = [] → RB W b s k → Oth b w W → VTold b s (xs.drop k) k w (.returned (.tuple #[.int .u8 0, .int .i64 131])) W) := by
    intro W e a1 a2
    have ev : Dr.ve (xs.drop k) = 131 := by rw [Dr.ve, if_pos e]
    exact ⟨by rw [Dr.vv, ev]; rfl, by rw [Dr.vu, ev]; exact a1, a2⟩
  have E2 : Hid (∀ W, ¬ xs.drop k = [] → Dr.idx Dr.verbs (Dr.nx xs k) < 0 → RB W b s k → Oth b w W → VTold b s (xs.drop k) k w (.returned (.tuple #[.int .u8 0, .int .i64 130])) W) := by
    intro W e e2 a1 a2
    have ev : Dr.ve (xs.drop k) = 130 := by rw [Dr.ve, if_neg e, HH.out, if_pos e2]
    exact ⟨by rw [Dr.vv, ev]; rfl, by rw [Dr.vu, ev]; exact a1, a2⟩
  have E3 : Hid (∀ W, ¬ xs.drop k = [] → ¬ Dr.idx Dr.verbs (Dr.nx xs k) < 0 → RB W b s (k + 1) → Oth b w W → VTold b s (xs.drop k) k w (.returned (.tuple #[.int .u8 (Dr.nx xs k), .int .i64 0])) W) := by
    intro W e e2 a1 a2
    have ev : Dr.ve (xs.drop k) = 0 := by rw [Dr.ve, if_neg e, HH.out, if_neg e2]
    exact ⟨by rw [Dr.vv, ev, HH.out]; rfl, by rw [Dr.vu, ev]; exact a1, a2⟩
  have dn : xs.drop k = [] ↔ xs.length ≤ k := List.drop_eq_nil_iff
  have I1 := hid (IX.out (Dr.nx xs k))
  clear HH hs h IX
  generalize Dr.nx xs k = x at *
  generalize Dr.idx Dr.verbs x = i at *
  by_cases he : k = xs.length
  · have F := hid (fun W => E.out W (dn.2 (by omega)))
    have he2 : (k : Int) = (xs.length : Int) := by omega
    clear E E2 E3 dn he hk hl I1
    go_enter Tryd.func56, Tryd.ntmps56
    go_wp2_with fail
    refine N.out.mono ?_
    rintro e w1 ⟨rfl, hB⟩
    have R1 := hid (H.out.below hB)
    have O1 : Hid (Oth b w w1) := Oth.of_below hB
    obtain ⟨⟨c0, c1⟩, fz⟩ := R1.out.cells
    clear hB
    go_wp2_with fail
    go_quiet (fail)
    go_wp2_with fail
    go_ret2
    exact F.out _ R1.out (O1.out.drew _)
  · have ne : ¬ xs.drop k = [] := fun q => by have := dn.1 q; omega
    have he2 : ¬ (k : Int) = (xs.length : Int) := by omega
    have F2 := hid (fun W => E2.out W ne)
    have F3 := hid (fun W => E3.out W ne)
    clear E E2 E3 dn he hk hl ne
    go_enter Tryd.func56, Tryd.ntmps56
    go_wp2_with fail
    refine N.out.mono ?_
    rintro e w1 ⟨rfl, hB⟩
    have R1 := hid (H.out.below hB)
    have O1 : Hid (Oth b w w1) := Oth.of_below hB
    obtain ⟨⟨c0, c1⟩, fz⟩ := R1.out.cells
    clear hB
    go_wp2_with fail
    go_quiet (fail)
    have R2 : Hid (RB (w1.drewN nq) b s k) := R1.out
    have O2 := hid (O1.out.drew nq)
    generalize w1.drewN nq = w2 at *
    obtain ⟨⟨c0, c1⟩, fz⟩ := R2.out.cells
    by_cases hi : i < 0
    · go_wp2_with fail
      refine (I1.out w2 x0 x1).mono ?_
      rintro e w3 ⟨rfl, e3⟩
      rw [e3]
      go_wp2_with fail
      go_ret2
      exact F2.out _ hi R2.out O2.out
    · go_wp2_with fail
      refine (I1.out w2 x0 x1).mono ?_
      rintro e w3 ⟨rfl, e3⟩
      rw [e3]
      clear e3
      go_wp2_with fail
      go_ret2
      exact F3.out _ hi (R2.out.set (by go_num)) (O2.out.trans (Oth.set _ _))
end Go.Proofs.YtaadooippelcfaaDoor

namespace Go.Proofs.YtaadooippelcfaaDoor
open Go Go.RowKit Go.Deep Go.Shelf

namespace Dr
theorem ct_idx (l : List Int) : ct isX l = if idx l 37 < 0 then l.length else (idx l 37).toNat := by
  induction l with
  | nil => rfl
  | cons c l ih =>
    have := idx_ge l 37
    rw [ct, idx, ih]
    by_cases h : c = 37
    · subst h; rfl
    · rw [if_pos (by simp [isX, h]), if_neg h]
      by_cases k : idx l 37 < 0
      · rw [if_pos k, if_pos k, if_pos (by decide), List.length_cons]
      · rw [if_neg k, if_neg k, if_neg (by omega)]; omega
end Dr

theorem str_of {s : ByteArray} {xs : List Int} (h : Str s xs) : s = strOfNums xs := h.inj (Str.of_nums (fun _ hx => h.mem hx))

/-- What text tells. -/
def TTold (b : Nat) (s : ByteArray) (l : List Int) (k : Nat) (w : World) (r : Ending) (w' : World) : Prop := r = .returned (.string (strOfNums (l.take (Dr.ct Dr.isX l)))) ∧ RB w' b s (k + Dr.ct Dr.isX l) ∧ Oth b w w'

set_option maxRecDepth 100000 in
theorem dtext_any (b k : Nat) (s : ByteArray) (xs : List Int) (w : World) (hs : Str s xs) (hk : k ≤ xs.length) (hl : xs.length ≤ 281474976710656) (h : RB w b s k) :
    Calls Tryd.prog 43 #[.pointer (some ⟨b, 0, none⟩)] w fun r w' => TTold b s (xs.drop k) k w r w' := by
  have hsz := hs.size
  obtain ⟨⟨c0, c1⟩, fz⟩ := h.cells
  have h1 := hs.extract k xs.length
  rw [List.take_of_length_le (by simp)] at h1
  have h1s := h1.size
  rw [List.length_drop] at h1s
  have IX := hid (fun W => idx_any (s.extract k xs.length) (xs.drop k) 37 W h1 (by omega) (by omega))
  have CT := Dr.ct_idx (xs.drop k)
  have IG := Dr.idx_ge (xs.drop k) 37
  have IL := Dr.idx_lt (xs.drop k) 37
  rw [List.length_drop] at IL CT
  have TK : Hid (∀ (m : Nat) W, m = Dr.ct Dr.isX (xs.drop k) → RB W b s (k + m) → Oth b w W → TTold b s (xs.drop k) k w (.returned (.string (strOfNums ((xs.drop k).take m)))) W) := by
    intro m W e a1 a2
    subst e
    exact ⟨rfl, a1, a2⟩
  have kl : (k : Int) ≤ (xs.length : Int) := by omega
  have xl : (xs.length : Int) ≤ 281474976710656 := by omega
  have R0 : Hid (∀ n, RB (w.drewN n) b s k) := fun n => h
  have O0 : Hid (∀ n, Oth b w (w.drewN n)) := fun n => (Oth.refl b w).drew n
  have bl := h.lt
  by_cases hi : Dr.idx (xs.drop k) 37 < 0
  · rw [if_pos hi] at CT
    have TK2 := hid (fun W => TK.out (xs.length - k) W CT.symm)
    have e1 : strOfNums ((xs.drop k).take (xs.length - k)) = s.extract k xs.length := by
      rw [List.take_of_length_le (by simp)]; exact (str_of h1).symm
    rw [e1] at TK2
    have CL := hid (fun W => vclone_any (s.extract k xs.length) W (by omega))
    clear hs h h1 TK CT IG IL e1 hk hl
    generalize Dr.idx (xs.drop k) 37 = i at *
    go_enter Tryd.func43, Tryd.ntmps43
    go_wp2_with fail
    go_quiet (fail)
    have R1 := hid (R0.out nq)
    have O1 := hid (O0.out nq)
    generalize w.drewN nq = w1 at *
    clear R0 O0 c0 c1 fz
    go_wp2_with fail
    refine (IX.out w1).mono ?_
    rintro e w2 ⟨rfl, e2⟩
    rw [e2]
    clear e2 w2
    obtain ⟨⟨c0, c1⟩, fz⟩ := R1.out.cells
    generalize s.extract k xs.length = t at *
    have ts : (k : Int) + ((xs.length - k : Nat) : Int) ≤ 281474976710656 := by omega
    generalize xs.length - k = m at *
    have R2 := hid (R1.out.set (j := k + m) (v := (k : Int) + (m : Int)) (by omega))
    have O2 : Hid (Oth b w (w1.setCell ⟨b, 1, none⟩ (.int .i64 ((k : Int) + (m : Int))))) := O1.out.trans (Oth.set _ _)
    go_wp2_with fail
    refine (CL.out _).mono ?_
    rintro e w3 ⟨rfl, hB⟩
    have R3 := hid (R2.out.below hB)
    have O3 : Hid (Oth b w w3) := O2.out.trans (Oth.of_below hB)
    clear hB
    go_wp2_with fail
    go_ret
    exact TK2.out _ R3.out O3.out
  · rw [if_neg hi] at CT
    obtain ⟨m, hm⟩ : ∃ m : Nat, Dr.idx (xs.drop k) 37 = (m : Int) := ⟨_, (Int.toNat_of_nonneg (by omega)).symm⟩
    rw [hm] at CT IL IX
    rw [Int.toNat_natCast] at CT
    have TK2 := hid (fun W => TK.out m W CT.symm)
    have h2 := h1.extract 0 m
    rw [List.drop_zero, Nat.sub_zero] at h2
    have h2s := h2.size
    rw [List.length_take, List.length_drop] at h2s
    rw [← str_of h2] at TK2
    have CL := hid (fun W => vclone_any ((s.extract k xs.length).extract 0 m) W (by omega))
    have h2t : ((s.extract k xs.length).extract 0 m).size = m := by omega
    have ml : (m : Int) ≤ ((s.extract k xs.length).size : Int) := by omega
    have mk : (k : Int) + (m : Int) ≤ 281474976710656 := by omega
    clear hs h h1 TK CT IG IL hk hl hi hm h2 h2s h1s
    go_enter Tryd.func43, Tryd.ntmps43
    go_wp2_with fail
    go_quiet (fail)
    have R1 := hid (R0.out nq)
    have O1 := hid (O0.out nq)
    generalize w.drewN nq = w1 at *
    clear R0 O0 c0 c1 fz
    go_wp2_with fail
    refine (IX.out w1).mono ?_
    rintro e w2 ⟨rfl, e2⟩
    rw [e2]
    clear e2 w2
    obtain ⟨⟨c0, c1⟩, fz⟩ := R1.out.cells
    generalize s.extract k xs.length = t at *
    have R2 := hid (R1.out.set (j := k + m) (v := (k : Int) + (m : Int)) (by omega))
    have O2 : Hid (Oth b w (w1.setCell ⟨b, 1, none⟩ (.int .i64 ((k : Int) + (m : Int))))) := O1.out.trans (Oth.set _ _)
    go_wp2_with fail
    refine (CL.out _).mono ?_
    rintro e w3 ⟨rfl, hB⟩
    have R3 := hid (R2.out.below hB)
    have O3 : Hid (Oth b w w3) := O2.out.trans (Oth.of_below hB)
    clear hB
    go_wp2_with fail
    go_ret
    exact TK2.out _ R3.out O3.out
end Go.Proofs.YtaadooippelcfaaDoor
