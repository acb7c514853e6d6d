/-
  directive's reader: flags, number, precision, verb.
-/
import Derived.Test.YtaadooippelcfaaDoorDMem
namespace Go.Proofs.YtaadooippelcfaaDoor
open Go Go.RowKit Go.Deep Go.Shelf

namespace Dr
theorem ct_drop {p : Int → Bool} {xs : List Int} {k : Nat} (hk : k < xs.length) : ct p (xs.drop k) = if p (nx xs k) = true then ct p (xs.drop (k + 1)) + 1 else 0 := by
  rw [List.drop_eq_getElem_cons hk, ct, nx, List.getD_eq_getElem?_getD, List.getElem?_eq_getElem hk]; rfl
theorem fS_drop {s : Nat} {xs : List Int} {k : Nat} (hk : k < xs.length) : fS s (xs.drop k) = if isF (nx xs k) = true then fS (s ||| 2 ^ (idx marks (nx xs k)).toNat) (xs.drop (k + 1)) else s := by
  rw [List.drop_eq_getElem_cons hk, fS, nx, List.getD_eq_getElem?_getD, List.getElem?_eq_getElem hk]; rfl
theorem dN_drop {n : Int} {xs : List Int} {k : Nat} (hk : k < xs.length) : dN n (xs.drop k) = if isD (nx xs k) = true then dN (min (10 * n + (nx xs k - 48)) 4097) (xs.drop (k + 1)) else n := by
  rw [List.drop_eq_getElem_cons hk, dN, nx, List.getD_eq_getElem?_getD, List.getElem?_eq_getElem hk]; rfl
theorem head_drop (xs : List Int) (k : Nat) : (xs.drop k).headD 0 = nx xs k := by
  rcases Nat.lt_or_ge k xs.length with h | h
  · rw [List.drop_eq_getElem_cons h, nx, List.getD_eq_getElem?_getD, List.getElem?_eq_getElem h]; rfl
  · rw [List.drop_of_length_le h, nx, List.getD_eq_getElem?_getD, List.getElem?_eq_none h]; rfl
theorem getD_pos {xs : List Int} {k : Nat} (h : nx xs k ≠ 0) : k < xs.length := by
  rcases Nat.lt_or_ge k xs.length with c | c
  · exact c
  · exact absurd (by rw [nx, List.getD_eq_getElem?_getD, List.getElem?_eq_none c]; rfl) h
theorem or_lt {s i : Nat} (hs : s < 32) (hi : i < 5) : s ||| 2 ^ i < 32 :=
  Nat.or_lt_two_pow (n := 5) hs (Nat.pow_lt_pow_right (by omega) hi)
theorem fS_lt {s : Nat} (l : List Int) (hs : s < 32) : fS s l < 32 := by
  induction l generalizing s with
  | nil => exact hs
  | cons c l ih =>
    rw [fS]
    split
    · have := idx_lt marks c
      have := idx_ge marks c
      exact ih (or_lt hs (by simp [marks] at *; omega))
    · exact hs
end Dr

/-- What flags tells. -/
def FTold (b : Nat) (s : ByteArray) (l : List Int) (k : Nat) (w : World) (r : Ending) (w' : World) : Prop := r = .returned (.int .i64 (Dr.fS 0 l : Nat)) ∧ RB w' b s (k + Dr.ct Dr.isF l) ∧ Oth b w w'

theorem or_is (t i : Nat) (ht : t < 32) (hi : i < 5) : bits .or .i64 (t : Int) (wrap64 (2 ^ i)) = ((t ||| 2 ^ i : Nat) : Int) := by
  have key : ∀ (t : Fin 32) (i : Fin 5), bits .or .i64 (t.val : Int) (IntKind.i64.wrap (1 * 2 ^ i.val)) = ((t.val ||| 2 ^ i.val : Nat) : Int) := by decide
  have e : wrap64 (2 ^ i) = IntKind.i64.wrap (1 * 2 ^ i) := by
    rw [IntKind.wrap_i64, Int.one_mul, wrap64]
  rw [e]
  exact key ⟨t, ht⟩ ⟨i, hi⟩

set_option maxRecDepth 100000 in
theorem flags_any (b k : Nat) (s : ByteArray) (xs : List Int) (w : World) (hs : Str s xs) (hk : k ≤ xs.length) (hl : xs.length ≤ 4611686018427387904) (h : RB w b s k) :
    Calls Tryd.prog 53 #[.pointer (some ⟨b, 0, none⟩)] w fun r w' => FTold b s (xs.drop k) k w r w' := by
  have NX : Hid (∀ (j : Nat) (W : World), j ≤ xs.length → RB W b s j → Calls Tryd.prog 42 #[.pointer (some ⟨b, 0, none⟩)] W fun e w' => e = .returned (.int .u8 (Dr.nx xs j)) ∧ Below W.heap.size W w') := fun j W hj hb => next_any b j s xs W hs hj hb
  have IX : Hid (∀ (c : Int) (W : World), 0 ≤ c → c < 256 → Calls Tryd.prog 38 #[.string ⟨#[45, 43, 32, 35, 48]⟩, .int .u8 c] W fun e w' => e = .returned (.int .i64 (Dr.idx Dr.marks c)) ∧ w' = W) := fun c W h0 h1 => idx_any ⟨#[45, 43, 32, 35, 48]⟩ Dr.marks c W rfl h0 h1
  have HS := hid hs
  have HL := hid hl
  have HK := hid hk
  have H := hid h
  have S0 : Hid (Dr.fS 0 (xs.drop k) < 32) := Dr.fS_lt _ (by omega)
  clear hs h hl hk
  go_enter Tryd.func53, Tryd.ntmps53
  go_wp2_with fail
  go_loopg [3] (xs.length - k) (fun m i wr => ∃ (j t : Nat), j + m = xs.length ∧ i = .int .i64 (t : Int) ∧ Hid (RB wr b s j ∧ Oth b w wr ∧ k ≤ j ∧ t < 32 ∧ j + Dr.ct Dr.isF (xs.drop j) = k + Dr.ct Dr.isF (xs.drop k) ∧ Dr.fS t (xs.drop j) = Dr.fS 0 (xs.drop k)))
  case atStart => exact ⟨k, 0, by have := HK.out; omega, rfl, H.out, Oth.refl _ _, by omega, by omega, rfl, rfl⟩
  case round =>
    obtain ⟨j, t, hj, rfl, I⟩ := hrel
    have hx : 0 ≤ Dr.nx xs j ∧ Dr.nx xs j < 256 := HS.out.atb j
    have hjl : (j : Int) ≤ 4611686018427387904 := by have := HL.out; omega
    go_wp2_with fail
    refine (NX.out j wr (by omega) I.out.1).mono ?_
    rintro e w1 ⟨rfl, hB⟩
    have R1 := hid (I.out.1.below hB)
    have O1 := hid (I.out.2.1.trans (Oth.of_below hB))
    clear hB
    go_wp2_with fail
    refine (IX.out _ w1 hx.1 hx.2).mono ?_
    rintro e w2 ⟨rfl, e2⟩
    rw [e2]
    clear e2 w2
    by_cases hf : Dr.isF (Dr.nx xs j) = true
    · have hlt : j < xs.length := Dr.getD_pos (by rcases Dr.isF_cases.1 hf with h | h | h | h | h <;> rw [h] <;> decide)
      obtain ⟨i, hi⟩ : ∃ i : Nat, Dr.idx Dr.marks (Dr.nx xs j) = (i : Int) := ⟨_, (Int.toNat_of_nonneg (by simpa [Dr.isF] using hf)).symm⟩
      have i5 : i < 5 := by have := Dr.idx_lt Dr.marks (Dr.nx xs j); rw [hi] at this; simp [Dr.marks] at this; omega
      have J : Hid (∀ W, RB W b s (j + 1) → Oth b w W → RB W b s (j + 1) ∧ Oth b w W ∧ k ≤ j + 1 ∧ t ||| 2 ^ i < 32 ∧ j + 1 + Dr.ct Dr.isF (xs.drop (j + 1)) = k + Dr.ct Dr.isF (xs.drop k) ∧ Dr.fS (t ||| 2 ^ i) (xs.drop (j + 1)) = Dr.fS 0 (xs.drop k)) := by
        intro W a1 a2
        obtain ⟨_, _, q1, q2, q3, q4⟩ := I.out
        rw [Dr.ct_drop hlt, if_pos hf] at q3
        rw [Dr.fS_drop hlt, if_pos hf, hi] at q4
        exact ⟨a1, a2, by omega, Dr.or_lt q2 i5, by omega, q4⟩
      have T32 := hid I.out.2.2.2.1
      rw [hi]
      have ii : ¬ (i : Int) < 0 := by omega
      clear I hx
      obtain ⟨⟨c0, c1⟩, fz⟩ := R1.out.cells
      have i64 : (i : Int) ≤ 64 := by omega
      go_wp2_with fail
      go_roundg (xs.length - (j + 1))
      case measure => omega
      case rel =>
        refine ⟨j + 1, t ||| 2 ^ i, by omega, ?_, J.out _ (R1.out.set (by go_num)) (O1.out.trans (Oth.set _ _))⟩
        rw [← or_is t i T32.out i5]
    · have K : Hid (FTold b s (xs.drop k) k w (.returned (.int .i64 (t : Int))) w1) := by
        obtain ⟨_, _, q1, q2, q3, q4⟩ := I.out
        have c0 : Dr.ct Dr.isF (xs.drop j) = 0 := Dr.ct_zero (by rw [Dr.head_drop]; simpa using hf)
        have f0 : Dr.fS t (xs.drop j) = t := Dr.fS_stop (by rw [Dr.head_drop]; simpa using hf)
        rw [c0] at q3
        rw [f0] at q4
        exact ⟨by rw [q4], by rw [← q3]; exact R1.out, O1.out⟩
      have ii : Dr.idx Dr.marks (Dr.nx xs j) < 0 := by simpa [Dr.isF] using hf
      generalize Dr.idx Dr.marks (Dr.nx xs j) = i at *
      clear I hx
      go_wp2_with fail
      go_ret
      exact K.out

/-- What number tells. -/
def NTold (b : Nat) (s : ByteArray) (l : List Int) (k : Nat) (w : World) (r : Ending) (w' : World) : Prop := r = .returned (.tuple #[.int .i64 (Dr.nk l), .int .i64 (Dr.nv l), .int .i64 (Dr.ne l)]) ∧ RB w' b s (k + Dr.nu l) ∧ Oth b w w'

theorem Dr.dN_stop {n : Int} {r : List Int} (h : Dr.isD (r.headD 0) = false) : Dr.dN n r = n := by
  cases r with
  | nil => rfl
  | cons c l => rw [Dr.dN, if_neg (by simp only [List.headD_cons] at h; rw [h]; simp)]
theorem dN_bd {n : Int} (l : List Int) (h0 : 0 ≤ n) (h1 : n ≤ 4097) : 0 ≤ Dr.dN n l ∧ Dr.dN n l ≤ 4097 := by
  induction l generalizing n with
  | nil => exact ⟨h0, h1⟩
  | cons c l ih =>
    rw [Dr.dN]
    split
    · rename_i h
      have := Dr.isD_iff.1 h
      exact ih (by omega) (by omega)
    · exact ⟨h0, h1⟩

set_option maxRecDepth 100000 in
theorem number_any (b k : Nat) (s : ByteArray) (xs : List Int) (w : World) (hs : Str s xs) (hk : k ≤ xs.length) (hl : xs.length ≤ 4611686018427387904) (h : RB w b s k) :
    Calls Tryd.prog 54 #[.pointer (some ⟨b, 0, none⟩)] w fun r w' => NTold b s (xs.drop k) k w r w' := by
  have NX : Hid (∀ (j : Nat) (W : World), j ≤ xs.length → RB W b s j → Calls Tryd.prog 42 #[.pointer (some ⟨b, 0, none⟩)] W fun e w' => e = .returned (.int .u8 (Dr.nx xs j)) ∧ Below W.heap.size W w') := fun j W hj hb => next_any b j s xs W hs hj hb
  have HS := hid hs
  have HL := hid hl
  have HK := hid hk
  have H := hid h
  have hkl : (k : Int) ≤ 4611686018427387904 := by omega
  have HH := Dr.head_drop xs k
  clear hs h hl hk
  go_enter Tryd.func54, Tryd.ntmps54
  go_wp2_with fail
  refine (NX.out k w HK.out H.out).mono ?_
  rintro e w1 ⟨rfl, hB⟩
  have R1 := hid (H.out.below hB)
  have O1 : Hid (Oth b w w1) := Oth.of_below hB
  clear hB
  by_cases h42 : Dr.nx xs k = 42
  · have K : Hid (∀ W, RB W b s (k + 1) → Oth b w W → NTold b s (xs.drop k) k w (.returned (.tuple #[.int .i64 2, .int .i64 0, .int .i64 0])) W) := by
      intro W a1 a2
      rw [h42] at HH
      refine ⟨?_, ?_, a2⟩
      · rw [Dr.nk, Dr.nv, Dr.ne, if_pos HH, if_pos HH, if_pos HH]
      · rw [Dr.nu, if_pos HH]; exact a1
    obtain ⟨⟨c0, c1⟩, fz⟩ := R1.out.cells
    clear HH
    go_wp2_with fail
    go_ret3
    exact K.out _ (R1.out.set (by go_num)) (O1.out.trans (Oth.set _ _))
  · rw [← HH] at h42
    have H42 := hid h42
    rw [HH] at h42
    obtain ⟨⟨c0, c1⟩, fz⟩ := R1.out.cells
    clear HH
    go_wp2_with fail
    clear c0 c1 fz h42
    generalize (Dr.nx xs k == 42) = q9
    go_loopg [6] (xs.length - k) (fun m i wr => ∃ (j : Nat) (v : Int), j + m = xs.length ∧ i = .int .i64 v ∧ Hid (RB wr b s j ∧ Oth b w wr ∧ k ≤ j ∧ 0 ≤ v ∧ v ≤ 4097 ∧ j + Dr.ct Dr.isD (xs.drop j) = k + Dr.ct Dr.isD (xs.drop k) ∧ Dr.dN v (xs.drop j) = Dr.dN 0 (xs.drop k)))
    case atStart => exact ⟨k, 0, by have := HK.out; omega, rfl, R1.out, O1.out, by omega, by omega, by omega, rfl, rfl⟩
    case round =>
      obtain ⟨j, v, hj, rfl, I⟩ := hrel
      have hx : 0 ≤ Dr.nx xs j ∧ Dr.nx xs j < 256 := HS.out.atb j
      have hjl : (j : Int) ≤ 4611686018427387904 := by have := HL.out; omega
      have v0 := I.out.2.2.2.1
      have v1 := I.out.2.2.2.2.1
      go_wp2_with fail
      refine (NX.out j wr (by omega) I.out.1).mono ?_
      rintro e w2 ⟨rfl, hB⟩
      have R2 := hid (I.out.1.below hB)
      have O2 := hid (I.out.2.1.trans (Oth.of_below hB))
      clear hB
      by_cases hd : Dr.isD (Dr.nx xs j) = true
      · have hlt : j < xs.length := Dr.getD_pos (by have := Dr.isD_iff.1 hd; omega)
        have J : Hid (∀ W, RB W b s (j + 1) → Oth b w W → RB W b s (j + 1) ∧ Oth b w W ∧ k ≤ j + 1 ∧ 0 ≤ min (10 * v + (Dr.nx xs j - 48)) 4097 ∧ min (10 * v + (Dr.nx xs j - 48)) 4097 ≤ 4097 ∧ j + 1 + Dr.ct Dr.isD (xs.drop (j + 1)) = k + Dr.ct Dr.isD (xs.drop k) ∧ Dr.dN (min (10 * v + (Dr.nx xs j - 48)) 4097) (xs.drop (j + 1)) = Dr.dN 0 (xs.drop k)) := by
          intro W a1 a2
          obtain ⟨_, _, q1, _, _, q3, q4⟩ := I.out
          have := Dr.isD_iff.1 hd
          rw [Dr.ct_drop hlt, if_pos hd] at q3
          rw [Dr.dN_drop hlt, if_pos hd] at q4
          exact ⟨a1, a2, by omega, by omega, by omega, by omega, q4⟩
        have N2 : Hid (∀ W, RB W b s j → Calls Tryd.prog 42 #[.pointer (some ⟨b, 0, none⟩)] W fun e w' => e = .returned (.int .u8 (Dr.nx xs j)) ∧ Below W.heap.size W w') := fun W hb => NX.out j W (by omega) hb
        obtain ⟨d0, d1⟩ := Dr.isD_iff.1 hd
        clear I hd
        generalize Dr.nx xs j = x at *
        have W8 : IntKind.u8.wrap (x - 48) = x - 48 := by rw [IntKind.wrap_u8]; omega
        go_wp2_with fail
        refine (N2.out w2 R2.out).mono ?_
        rintro e w3 ⟨rfl, hB⟩
        have R3 := hid (R2.out.below hB)
        have O3 := hid (O2.out.trans (Oth.of_below hB))
        clear hB
        go_wp2_with fail
        refine (N2.out w3 R3.out).mono ?_
        rintro e w4 ⟨rfl, hB⟩
        have R4 := hid (R3.out.below hB)
        have O4 := hid (O3.out.trans (Oth.of_below hB))
        clear hB
        obtain ⟨⟨c0, c1⟩, fz⟩ := R4.out.cells
        have vb : (-9223372036854775808 : Int) ≤ 10 * v + (x - 48) := by omega
        have vc : 10 * v + (x - 48) ≤ (9223372036854775807 : Int) := by omega
        go_wp2_with fail
        go_roundg (xs.length - (j + 1))
        case measure => omega
        case rel =>
          exact ⟨j + 1, min (10 * v + (x - 48)) 4097, by omega, rfl, J.out _ (R4.out.set (by go_num)) (O4.out.trans (Oth.set _ _))⟩
      · have C0 : Hid (j = k + Dr.ct Dr.isD (xs.drop k) ∧ v = Dr.dN 0 (xs.drop k) ∧ k ≤ j) := by
          obtain ⟨_, _, q1, _, _, q3, q4⟩ := I.out
          have c0 : Dr.ct Dr.isD (xs.drop j) = 0 := Dr.ct_zero (by rw [Dr.head_drop]; simpa using hd)
          have f0 : Dr.dN v (xs.drop j) = v := by
            have := Dr.dN_stop (n := v) (r := xs.drop j) (by rw [Dr.head_drop]; simpa using hd)
            exact this
          rw [c0] at q3
          rw [f0] at q4
          exact ⟨by omega, q4, q1⟩
        have K0 : Hid (j = k → ∀ W, RB W b s j → Oth b w W → NTold b s (xs.drop k) k w (.returned (.tuple #[.int .i64 0, .int .i64 0, .int .i64 0])) W) := by
          intro e W a1 a2
          have c0 : Dr.ct Dr.isD (xs.drop k) = 0 := by have := C0.out.1; omega
          refine ⟨?_, ?_, a2⟩
          · rw [Dr.nk, Dr.nv, Dr.ne, if_neg H42.out, if_neg H42.out, if_neg H42.out, if_pos c0, if_pos c0, if_pos c0]
          · rw [Dr.nu, if_neg H42.out, if_pos c0]; rw [e] at a1; exact a1
        have K1 : Hid (¬ j = k → 4096 < v → ∀ W, RB W b s k → Oth b w W → NTold b s (xs.drop k) k w (.returned (.tuple #[.int .i64 0, .int .i64 0, .int .i64 6])) W) := by
          intro e e2 W a1 a2
          have c0 : ¬ Dr.ct Dr.isD (xs.drop k) = 0 := by have := C0.out.1; omega
          rw [C0.out.2.1] at e2
          refine ⟨?_, ?_, a2⟩
          · rw [Dr.nk, Dr.nv, Dr.ne, if_neg H42.out, if_neg H42.out, if_neg H42.out, if_neg c0, if_neg c0, if_neg c0, if_pos e2, if_pos e2, if_pos e2]
          · rw [Dr.nu, if_neg H42.out, if_neg c0, if_pos e2]; exact a1
        have K2 : Hid (¬ j = k → ¬ 4096 < v → ∀ W, RB W b s j → Oth b w W → NTold b s (xs.drop k) k w (.returned (.tuple #[.int .i64 1, .int .i64 v, .int .i64 0])) W) := by
          intro e e2 W a1 a2
          have c0 : ¬ Dr.ct Dr.isD (xs.drop k) = 0 := by have := C0.out.1; omega
          have hv := C0.out.2.1
          rw [hv] at e2 ⊢
          refine ⟨?_, ?_, a2⟩
          · rw [Dr.nk, Dr.nv, Dr.ne, if_neg H42.out, if_neg H42.out, if_neg H42.out, if_neg c0, if_neg c0, if_neg c0, if_neg e2, if_neg e2, if_neg e2]
          · rw [Dr.nu, if_neg H42.out, if_neg c0, if_neg e2, ← C0.out.1]; exact a1
        have N2 : Hid (∀ W, RB W b s j → Calls Tryd.prog 42 #[.pointer (some ⟨b, 0, none⟩)] W fun e w' => e = .returned (.int .u8 (Dr.nx xs j)) ∧ Below W.heap.size W w') := fun W hb => NX.out j W (by omega) hb
        have hd2 : ¬ (48 ≤ Dr.nx xs j ∧ Dr.nx xs j ≤ 57) := fun q => hd (Dr.isD_iff.2 q)
        have kj := C0.out.2.2
        clear I hd C0
        generalize Dr.nx xs j = x at *
        by_cases d0 : 48 ≤ x
        · have d1 : ¬ x ≤ 57 := fun q => hd2 ⟨d0, q⟩
          clear hd2
          go_wp2_with fail
          refine (N2.out w2 R2.out).mono ?_
          rintro e w3 ⟨rfl, hB⟩
          have R3 := hid (R2.out.below hB)
          have O3 := hid (O2.out.trans (Oth.of_below hB))
          clear hB
          obtain ⟨⟨c0, c1⟩, fz⟩ := R3.out.cells
          by_cases hjk : j = k
          · have hjk2 : (j : Int) = (k : Int) := by omega
            go_wp2_with fail
            go_ret3
            exact K0.out hjk _ R3.out O3.out
          · have hjk2 : ¬ (j : Int) = (k : Int) := by omega
            by_cases hv : 4096 < v
            · go_wp2_with fail
              go_ret3
              exact K1.out hjk hv _ (R3.out.set rfl) (O3.out.trans (Oth.set _ _))
            · go_wp2_with fail
              go_ret3
              exact K2.out hjk hv _ R3.out O3.out
        · clear hd2
          obtain ⟨⟨c0, c1⟩, fz⟩ := R2.out.cells
          by_cases hjk : j = k
          · have hjk2 : (j : Int) = (k : Int) := by omega
            go_wp2_with fail
            go_ret3
            exact K0.out hjk _ R2.out O2.out
          · have hjk2 : ¬ (j : Int) = (k : Int) := by omega
            by_cases hv : 4096 < v
            · go_wp2_with fail
              go_ret3
              exact K1.out hjk hv _ (R2.out.set rfl) (O2.out.trans (Oth.set _ _))
            · go_wp2_with fail
              go_ret3
              exact K2.out hjk hv _ R2.out O2.out
end Go.Proofs.YtaadooippelcfaaDoor
