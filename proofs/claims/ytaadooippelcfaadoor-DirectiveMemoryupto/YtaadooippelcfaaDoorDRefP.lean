/-
  abacusref13's Parse (mkdrefp.py).
-/
import Derived.Test.YtaadooippelcfaaDoorDParse
import Derived.Test.YtaadooippelcfaaDoorGD
import Derived.Test.YtaadooippelcfaaDoorDRefN
import Derived.Test.YtaadooippelcfaaDoorDRefPN
import Derived.Deep.DeepCutAuto
namespace Go.Proofs.YtaadooippelcfaaDoor
open Go Go.RowKit Go.Deep

theorem rowP_empty (w : World) : RowP w.heap.size (w.alloc (.cells #[] 25)) (.slice (some ⟨w.heap.size, 0, none⟩) 0 0) [] :=
  ⟨rfl, .inr ⟨w.heap.size, 0, #[], rfl, Nat.le_refl _, heap_alloc_new w _, Nat.le_refl _, by simp [maxLen], rfl, rfl⟩⟩

theorem rparse_text {s : ByteArray} {xs : List Int} (h : Str s xs) (a b : Nat) : s.extract a b = strOfNums ((xs.drop a).take (b - a)) :=
  (h.extract a b).inj (Str.of_nums (fun _ hx => h.mem (List.mem_of_mem_drop (List.mem_of_mem_take hx))))

theorem rnum_at {s : ByteArray} {xs : List Int} (hs : Str s xs) (hl : xs.length ≤ 1099511627776) {k m : Nat} (h : Dr.nx xs k ≠ 42) (e : m = Dr.wl xs k) (W : World) : Calls Tryd.prog 25 #[.string (s.extract k m)] W fun e w' => e = .returned (.int .i64 (Dr.dN 0 (xs.drop k))) ∧ w' = W := by
  obtain ⟨a, b⟩ := Dr.digits_at h e
  rw [← b]
  exact rnumber_any _ _ W (hs.extract k m) (by simp only [List.length_take, List.length_drop]; omega) a
theorem rparse_wc {s : ByteArray} {xs : List Int} {tt : Nat} (hs : Str s xs) (hl : xs.length ≤ 1099511627776) : (Dr.mW xs tt = Dr.mF xs tt ∧ Dr.wK xs tt = 0 ∧ Dr.wV xs tt = 0) ∨ (Dr.mF xs tt < Dr.mW xs tt ∧ Dr.nx xs (Dr.mF xs tt) = 42 ∧ Dr.wK xs tt = 2 ∧ Dr.wV xs tt = 0) ∨ (Dr.mF xs tt < Dr.mW xs tt ∧ Dr.nx xs (Dr.mF xs tt) ≠ 42 ∧ Dr.wK xs tt = 1 ∧ ∀ W, Calls Tryd.prog 25 #[.string (s.extract (Dr.mF xs tt) (Dr.mW xs tt))] W fun e w' => e = .returned (.int .i64 (Dr.wV xs tt)) ∧ w' = W) := by
  have g := Dr.mW_ge xs tt
  unfold Dr.wK Dr.wV
  by_cases h : Dr.mF xs tt < Dr.mW xs tt
  · right
    by_cases k : Dr.nx xs (Dr.mF xs tt) = 42
    · left
      exact ⟨h, k, by rw [if_pos h, if_pos k], if_neg (fun q => q.2 k)⟩
    · right
      refine ⟨h, k, by rw [if_pos h, if_neg k], fun W => ?_⟩
      rw [if_pos ⟨h, k⟩]
      exact rnum_at hs hl k rfl W
  · left
    exact ⟨by omega, if_neg h, if_neg (fun q => h q.1)⟩
theorem rparse_pc {s : ByteArray} {xs : List Int} {tt : Nat} (hs : Str s xs) (hl : xs.length ≤ 1099511627776) : (Dr.mP xs tt = Dr.mW xs tt ∧ Dr.pK xs tt = 0 ∧ Dr.pV xs tt = 0) ∨ (Dr.mW xs tt < Dr.mP xs tt ∧ Dr.mP xs tt ≠ Dr.mW xs tt + 1 ∧ Dr.nx xs (Dr.mW xs tt + 1) = 42 ∧ Dr.pK xs tt = 2 ∧ Dr.pV xs tt = 0) ∨ (Dr.mW xs tt < Dr.mP xs tt ∧ (Dr.mP xs tt = Dr.mW xs tt + 1 ∨ Dr.nx xs (Dr.mW xs tt + 1) ≠ 42) ∧ Dr.pK xs tt = 1 ∧ ∀ W, Calls Tryd.prog 25 #[.string (s.extract (Dr.mW xs tt + 1) (Dr.mP xs tt))] W fun e w' => e = .returned (.int .i64 (Dr.pV xs tt)) ∧ w' = W) := by
  have g := Dr.mP_ge xs tt
  have e : Dr.mP xs tt = if Dr.nx xs (Dr.mW xs tt) = 46 then Dr.wl xs (Dr.mW xs tt + 1) else Dr.mW xs tt := rfl
  unfold Dr.pK Dr.pV
  by_cases h : Dr.mW xs tt < Dr.mP xs tt
  · right
    have e2 : Dr.mP xs tt = Dr.wl xs (Dr.mW xs tt + 1) := by
      rw [e]; split
      · rfl
      · rename_i q; rw [if_neg q] at e; omega
    by_cases k : Dr.mP xs tt = Dr.mW xs tt + 1 ∨ Dr.nx xs (Dr.mW xs tt + 1) ≠ 42
    · right
      have n : Dr.nx xs (Dr.mW xs tt + 1) ≠ 42 := by
        rcases k with k | k
        · intro q; rw [Dr.wl, if_pos q] at e2; omega
        · exact k
      refine ⟨h, k, by rw [if_pos h, if_pos k], fun W => ?_⟩
      rw [if_pos ⟨h, k⟩]
      exact rnum_at hs hl n e2 W
    · left
      have k2 := not_or.1 k
      exact ⟨h, k2.1, Classical.not_not.1 k2.2, by rw [if_pos h, if_neg k], if_neg (fun q => k q.2)⟩
  · left
    exact ⟨by omega, if_neg h, if_neg (fun q => h q.1)⟩

set_option maxRecDepth 100000 in
set_option maxHeartbeats 4000000 in
theorem rparse_any (s : ByteArray) (xs : List Int) (w : World) (hs : Str s xs) (hl : xs.length ≤ 1099511627776) :
    Calls Tryd.prog 9 #[.string s] w fun r w' => PaTold w xs r w' := by
  have sx := hs.size
  have HSs := hid hs
  have HS : Hid (∀ k, ∀ h : k < s.size, ((s[k]'h).toNat : Int) = Dr.nx xs k) := fun k h => hs.at k h
  have MK : Hid (∀ j W, j < xs.length → Calls Tryd.prog 23 #[.string s, .int .i64 (j : Int)] W fun e w' => e = .returned (.agg #[.int .i64 (Dr.mF xs j : Nat), .int .i64 (Dr.mW xs j : Nat), .int .i64 (Dr.mP xs j : Nat)]) ∧ Below W.heap.size W w') := fun j W h => rmarked_any s xs j W hs h hl
  have hsz : (s.size : Int) ≤ 1099511627776 := by omega
  have HL := hid hl
  have SX := hid sx
  have S0 : Hid (Below w.heap.size w (w.alloc (.cells #[] 25)) ∧ RowP w.heap.size (w.alloc (.cells #[] 25)) (.slice (some ⟨w.heap.size, 0, none⟩) 0 0) []) := ⟨alloc_b w _, rowP_empty w⟩
  clear hs hl sx
  go_enter Tryd.func9, Tryd.ntmps9
  go_wp2_with fail
  go_loopg [5, 6] xs.length (fun m mv fv wr => ∃ (j : Nat) (D : List Dr.Pc), j + m = xs.length ∧ fv = .int .i64 (j : Int) ∧ Hid (Below w.heap.size w wr ∧ RowP w.heap.size wr mv D ∧ Sofar xs j D ∧ D.length ≤ j))
  case atStart => exact ⟨0, [], by omega, rfl, S0.out.1, S0.out.2, Sofar.start xs, by simp⟩
  case round =>
    obtain ⟨j, D, hj, rfl, I⟩ := hrel
    by_cases jl : j < s.size
    · have jli : (j : Int) < (s.size : Int) := by omega
      have jx : Hid (j < xs.length) := by have := SX.out; show _ < _; omega
      obtain ⟨tt, htt⟩ : ∃ tt, j + Dr.ct Dr.isX (xs.drop j) = tt := ⟨_, rfl⟩
      have KT : Hid (∀ {k}, j ≤ k → (∀ t, j ≤ t → t < k → Dr.isX (Dr.nx xs t) = true) → k ≤ xs.length → (k = xs.length ∨ Dr.isX (Dr.nx xs k) = false) → tt = k) := fun a b c d => htt.symm.trans (Dr.ct_at a b c d)
      have TT := hid htt
      have tl : tt ≤ s.size := by have := SX.out; rw [← htt, this]; exact Dr.ct_room _ (by omega)
      clear htt
      go_upto_block 2 with fail
      go_cut [7] (fun v wx => v = .int .i64 ((tt : Nat) : Int) ∧ wx = wr)
      case first =>
        as_aux_lemma =>
          go_wp2_with fail
          go_loopg [7] (xs.length - j) (fun m k wx => ∃ q : Nat, q + m = xs.length ∧ k = .int .i64 (q : Int) ∧ wx = wr ∧ Hid (j ≤ q ∧ ∀ t, j ≤ t → t < q → Dr.isX (Dr.nx xs t) = true))
          case atStart => exact ⟨j, by have := jx.out; omega, rfl, rfl, Nat.le_refl _, fun t a b => by omega⟩
          case round =>
            obtain ⟨q, hq, rfl, hwx, J⟩ := hrel
            subst hwx
            by_cases ql : q < s.size
            · have qli : (q : Int) < (s.size : Int) := by omega
              have qb : (q : Int) ≤ 1099511627776 := by omega
              obtain ⟨x, hx⟩ : ∃ x, Dr.nx xs q = x := ⟨_, rfl⟩
              have ki : ∀ h : q < s.size, ((s[q]'h).toNat : Int) = x := fun h => hx ▸ HS.out q h
              by_cases hf : x = 37
              · have E := hid (KT.out J.out.1 J.out.2 (by have := SX.out; omega) (.inr (by rw [hx, hf]; rfl)))
                have hf1 : (x == 37) = true := by simpa using hf
                clear J hx hf
                go_wp2_with fail
                go_meet
                exact ⟨by rw [E.out], rfl⟩
              · have hf1 : (x == 37) = false := by simpa using hf
                have J2 : Hid (j ≤ q + 1 ∧ ∀ t, j ≤ t → t < q + 1 → Dr.isX (Dr.nx xs t) = true) := ⟨by have := J.out.1; omega, fun t a b => by
                  by_cases e : t = q
                  · subst e; rw [hx]; simpa [Dr.isX] using hf
                  · exact J.out.2 t a (by omega)⟩
                clear J hx hf
                go_wp2_with fail
                go_roundg (xs.length - (q + 1))
                case measure => have := SX.out; omega
                case rel => exact ⟨q + 1, by have := SX.out; omega, by go_num, rfl, J2.out⟩
            · have qli : ¬ (q : Int) < (s.size : Int) := by omega
              have E := hid (KT.out J.out.1 J.out.2 (by omega) (.inl (by have := SX.out; omega)))
              clear J
              go_wp2_with fail
              go_meet
              exact ⟨by rw [E.out], rfl⟩
      case rest =>
      obtain ⟨h7, hwc⟩ := hcut
      subst hwc
      subst h7
      clear KT
      have szw := I.out.1.size
      by_cases h37 : Dr.nx xs j = 37
      · have te : tt = j := by
          rw [← TT.out, Dr.ct_zero (by rw [Dr.head_nx, h37]; rfl)]; omega
        subst te
        clear TT tl
        have t1 : (tt : Int) + 1 ≤ 1099511627777 := by omega
        by_cases k37 : Dr.nx xs (tt + 1) = 37
        · obtain ⟨p1, p2, p3⟩ := Dr.piece_pct h37 k37
          have l1 := Dr.nx_lt k37 (by decide)
          have l1i : (tt : Int) + 1 < (s.size : Int) := by have := SX.out; omega
          have l1n : tt + 1 < s.size := by have := SX.out; omega
          have ki : ∀ h : tt + 1 < s.size, ((s[tt + 1]'h).toNat : Int) = 37 := fun h => k37 ▸ HS.out (tt + 1) h
          obtain ⟨mv', w2, ap, q1, q2, q3, q4⟩ := I.out.2.1.push (Dr.qp (xs.drop tt)) (by have := I.out.2.2.2; have := HL.out; have := jx.out; omega) szw
          have F : Hid (Below w.heap.size w w2 ∧ RowP w.heap.size w2 mv' (D ++ [Dr.qp (xs.drop tt)]) ∧ Sofar xs (tt + 2) (D ++ [Dr.qp (xs.drop tt)]) ∧ (D ++ [Dr.qp (xs.drop tt)]).length ≤ tt + 2) := by
            refine ⟨I.out.1.trans q3, q1, ?_, ?_⟩
            · have q := I.out.2.2.1.step jx.out p1
              rw [p3] at q; exact q
            · have := I.out.2.2.2
              simp only [List.length_append, List.length_cons, List.length_nil]; omega
          have AP : Hid ((Builtin.append_ #[26, 26] 26 #[u5, .slice (some ⟨wc.heap.size, 0, none⟩) 1 1]).run Tryd.prog (wc.alloc (.cells #[.string ⟨#[]⟩, .int .u8 37, .int .i64 0, .int .i64 0, .int .i64 0, .int .i64 0, .int .i64 0] 25)) = .ok mv' w2) := by
            rw [p2] at ap
            exact ap
          clear ap q1 q2 q3 q4 p1 p2 p3 h37 k37 I l1
          go_wp2_with (at_builtin; refine wpList_append_b rfl _ _ rfl AP.out (by rfl) (by rfl) ?_; clear AP)
          go_roundg (xs.length - (tt + 2))
          case measure => have := SX.out; omega
          case rel => exact ⟨tt + 2, _, by have := SX.out; omega, by go_num, F.out⟩
        · obtain ⟨p1, p2, p3⟩ := Dr.piece_dir h37 k37
          have K37 := hid k37
          go_upto_region 10 with fail
          go_cut [53] (fun v wx => v = .bool false ∧ wx = wc)
          case first =>
            as_aux_lemma =>
              clear p1 p2 p3 I
              by_cases l1n : tt + 1 < s.size
              · have l1i : (tt : Int) + 1 < (s.size : Int) := by omega
                have ki : ∀ h : tt + 1 < s.size, ((s[tt + 1]'h).toNat : Int) = Dr.nx xs (tt + 1) := fun h => HS.out (tt + 1) h
                have k38 : (Dr.nx xs (tt + 1) == 37) = false := by simpa using k37
                clear k37 h37
                generalize Dr.nx xs (tt + 1) = x at *
                go_wp2_with fail
                go_meet
                exact ⟨rfl, rfl⟩
              · have l1i : ¬ (tt : Int) + 1 < (s.size : Int) := by omega
                clear k37 h37
                go_wp2_with fail
                go_meet
                exact ⟨rfl, rfl⟩
          case rest =>
          obtain ⟨h53, hwc⟩ := hcut
          have hwc := hwc.symm
          subst hwc
          subst h53
          clear k37
          have O1 : Hid (4096 < Dr.wV xs tt → Dr.prs xs = ([], Dr.mF xs tt, 6)) := fun h => by
            have q := Dr.dir_wide h
            have e := I.out.2.2.1.stop jx.out (by rw [p1, q.1]; decide)
            rw [e, p1, p3, q.1, q.2]
          have O2 : Hid (Dr.wV xs tt ≤ 4096 → 4096 < Dr.pV xs tt → Dr.prs xs = ([], Dr.mW xs tt + 1, 6)) := fun h k => by
            have q := Dr.dir_prec h k
            have e := I.out.2.2.1.stop jx.out (by rw [p1, q.1]; decide)
            rw [e, p1, p3, q.1, q.2]
          have O3 : Hid (Dr.wV xs tt ≤ 4096 → Dr.pV xs tt ≤ 4096 → Dr.mP xs tt = xs.length → Dr.prs xs = ([], xs.length, 131)) := fun h k l => by
            have q := Dr.dir_ends h k l
            have e := I.out.2.2.1.stop jx.out (by rw [p1, q.1]; decide)
            rw [e, p1, p3, q.1, q.2]
          have O4 : Hid (Dr.wV xs tt ≤ 4096 → Dr.pV xs tt ≤ 4096 → Dr.mP xs tt < xs.length → Dr.idx Dr.verbs (Dr.nx xs (Dr.mP xs tt)) < 0 → Dr.prs xs = ([], Dr.mP xs tt, 130)) := fun h k l v => by
            have q := Dr.dir_verb h k l v
            have e := I.out.2.2.1.stop jx.out (by rw [p1, q.1]; decide)
            rw [e, p1, p3, q.1, q.2]
          have O5 : Hid (Dr.wV xs tt ≤ 4096 → Dr.pV xs tt ≤ 4096 → Dr.mP xs tt < xs.length → ¬ Dr.idx Dr.verbs (Dr.nx xs (Dr.mP xs tt)) < 0 → Sofar xs (Dr.mP xs tt + 1) (D ++ [⟨[], Dr.nx xs (Dr.mP xs tt), Dr.fS 0 (xs.drop (tt + 1)), Dr.wK xs tt, Dr.wV xs tt, Dr.pK xs tt, Dr.pV xs tt⟩])) := fun h k l v => by
            have q := Dr.dir_ok h k l v
            have e := I.out.2.2.1.step jx.out (by rw [p1, q.1])
            rw [p3, p2, q.2.1, q.2.2] at e
            exact e
          have WC : Hid ((Dr.mW xs tt = Dr.mF xs tt ∧ Dr.wK xs tt = 0 ∧ Dr.wV xs tt = 0) ∨ (Dr.mF xs tt < Dr.mW xs tt ∧ Dr.nx xs (Dr.mF xs tt) = 42 ∧ Dr.wK xs tt = 2 ∧ Dr.wV xs tt = 0) ∨ (Dr.mF xs tt < Dr.mW xs tt ∧ Dr.nx xs (Dr.mF xs tt) ≠ 42 ∧ Dr.wK xs tt = 1 ∧ ∀ W, Calls Tryd.prog 25 #[.string (s.extract (Dr.mF xs tt) (Dr.mW xs tt))] W fun e w' => e = .returned (.int .i64 (Dr.wV xs tt)) ∧ w' = W)) := rparse_wc HSs.out HL.out
          have PC : Hid ((Dr.mP xs tt = Dr.mW xs tt ∧ Dr.pK xs tt = 0 ∧ Dr.pV xs tt = 0) ∨ (Dr.mW xs tt < Dr.mP xs tt ∧ Dr.mP xs tt ≠ Dr.mW xs tt + 1 ∧ Dr.nx xs (Dr.mW xs tt + 1) = 42 ∧ Dr.pK xs tt = 2 ∧ Dr.pV xs tt = 0) ∨ (Dr.mW xs tt < Dr.mP xs tt ∧ (Dr.mP xs tt = Dr.mW xs tt + 1 ∨ Dr.nx xs (Dr.mW xs tt + 1) ≠ 42) ∧ Dr.pK xs tt = 1 ∧ ∀ W, Calls Tryd.prog 25 #[.string (s.extract (Dr.mW xs tt + 1) (Dr.mP xs tt))] W fun e w' => e = .returned (.int .i64 (Dr.pV xs tt)) ∧ w' = W)) := rparse_pc HSs.out HL.out
          have B1 : tt + 1 ≤ Dr.mF xs tt := Dr.mF_ge _ _
          have B2 : Dr.mF xs tt ≤ Dr.mW xs tt := Dr.mW_ge _ _
          have B3 : Dr.mW xs tt ≤ Dr.mP xs tt := Dr.mP_ge _ _
          have B4 : Dr.mP xs tt ≤ s.size := by rw [SX.out]; exact Dr.mP_le jx.out
          have BT : Hid (∀ W, Calls Tryd.prog 23 #[.string s, .int .i64 (tt : Int)] W fun e w' => e = .returned (.agg #[.int .i64 (Dr.mF xs tt : Nat), .int .i64 (Dr.mW xs tt : Nat), .int .i64 (Dr.mP xs tt : Nat)]) ∧ Below W.heap.size W w') := fun W => MK.out tt W jx.out
          have FL : Hid (∀ k, tt + 1 ≤ k → k < Dr.mF xs tt → Dr.isF (Dr.nx xs k) = true) := fun k a b => Dr.flag_at a b
          have FD : Hid (∀ f, Dr.Fl xs tt (Dr.mF xs tt) f → f = Dr.fS 0 (xs.drop (tt + 1))) := fun f h => h.done
          have FZ : Hid (Dr.Fl xs tt (tt + 1) 0) := Dr.Fl.start xs tt
          have I1 := hid I.out.1
          have I2 := hid I.out.2.1
          have I3 := hid I.out.2.2.2
          clear p1 p2 p3 h37 I MK K37
          generalize Dr.fS 0 (xs.drop (tt + 1)) = fl at *
          generalize Dr.wK xs tt = wk at *
          generalize Dr.wV xs tt = wv at *
          generalize Dr.pK xs tt = pk at *
          generalize Dr.pV xs tt = pv at *
          generalize Dr.mP xs tt = mp at *
          generalize Dr.mW xs tt = mw at *
          generalize Dr.mF xs tt = mf at *
          go_wp2_with fail
          refine (BT.out _).mono ?_
          rintro e w1 ⟨rfl, b1⟩
          have J1 := hid (below_on I1.out b1)
          have J2 := hid (I2.out.below b1)
          clear b1 BT I1 I2
          go_upto_block 4 with fail
          go_cut [10, 11] (fun _ _ wx => wx = (w1.alloc (.cells #[.int .i64 (mf : Int), .int .i64 (mw : Int), .int .i64 (mp : Int)] 52)).alloc (.cells #[.string ⟨#[]⟩, .int .u8 0, .int .i64 (fl : Int), .int .i64 0, .int .i64 0, .int .i64 0, .int .i64 0] 25))
          case first =>
            as_aux_lemma =>
              go_wp2_with fail
              go_loopg [10, 11] (mf - (tt + 1)) (fun m kv _ wx => ∃ (k f : Nat), k + m = mf ∧ kv = .int .i64 (k : Int) ∧ wx = (w1.alloc (.cells #[.int .i64 (mf : Int), .int .i64 (mw : Int), .int .i64 (mp : Int)] 52)).alloc (.cells #[.string ⟨#[]⟩, .int .u8 0, .int .i64 (f : Int), .int .i64 0, .int .i64 0, .int .i64 0, .int .i64 0] 25) ∧ Hid (tt + 1 ≤ k ∧ Dr.Fl xs tt k f))
              case atStart => exact ⟨tt + 1, 0, by omega, by go_num, rfl, Nat.le_refl _, FZ.out⟩
              case round =>
                obtain ⟨k, f, hk, rfl, hwx, J⟩ := hrel
                subst hwx
                by_cases kl : k < mf
                · have kli : (k : Int) < (mf : Int) := by omega
                  have kn : k < s.size := by omega
                  have ksi : (k : Int) < (s.size : Int) := by omega
                  have hF := FL.out k J.out.1 kl
                  have ST := J.out.2.step hF
                  have f32 := J.out.2.1
                  obtain ⟨x, hx⟩ : ∃ x, Dr.nx xs k = x := ⟨_, rfl⟩
                  have ki : ∀ h : k < s.size, ((s[k]'h).toNat : Int) = x := fun h => hx ▸ HS.out k h
                  rw [hx] at hF ST
                  have g : 0 ≤ Dr.idx Dr.marks x := by simpa [Dr.isF] using hF
                  have lt := Dr.idx_lt Dr.marks x
                  rw [show ((Dr.marks.length : Nat) : Int) = 5 from rfl] at lt
                  have BI := hid (fun W => rbit_any x W g)
                  have KJ := hid J.out.1
                  clear J hx hF
                  generalize Dr.idx Dr.marks x = i at *
                  rcases (show i = 0 ∨ i = 1 ∨ i = 2 ∨ i = 3 ∨ i = 4 by omega) with rfl | rfl | rfl | rfl | rfl
                  · rw [show (2 : Nat) ^ ((0 : Int)).toNat = 1 from rfl] at ST
                    rw [show (2 : Int) ^ ((0 : Int)).toNat = 1 from rfl] at BI
                    by_cases hb : f / 1 % 2 = 0
                    · have e1 : (f : Int) % 2 = 0 := by omega
                      rw [if_pos hb] at ST
                      have F := hid ST
                      clear ST hb g lt
                      go_wp2_with (go_at_call 24; refine (BI.out _).mono ?_; rintro e w2 ⟨rfl, hw2⟩; rw [hw2]; clear hw2 w2)
                      go_roundg (mf - (k + 1))
                      case measure => omega
                      case rel => exact ⟨k + 1, f + 1, by omega, by go_num, by simp only [Int.natCast_add]; rfl, by have := KJ.out; omega, F.out⟩
                    · have e1 : (f : Int) % 2 = 1 := by omega
                      rw [if_neg hb] at ST
                      have F := hid ST
                      clear ST hb g lt
                      go_wp2_with (go_at_call 24; refine (BI.out _).mono ?_; rintro e w2 ⟨rfl, hw2⟩; rw [hw2]; clear hw2 w2)
                      go_roundg (mf - (k + 1))
                      case measure => omega
                      case rel => exact ⟨k + 1, f, by omega, by go_num, rfl, by have := KJ.out; omega, F.out⟩
                  · rw [show (2 : Nat) ^ ((1 : Int)).toNat = 2 from rfl] at ST
                    rw [show (2 : Int) ^ ((1 : Int)).toNat = 2 from rfl] at BI
                    by_cases hb : f / 2 % 2 = 0
                    · have e1 : (f : Int) / 2 % 2 = 0 := by omega
                      rw [if_pos hb] at ST
                      have F := hid ST
                      clear ST hb g lt
                      go_wp2_with (go_at_call 24; refine (BI.out _).mono ?_; rintro e w2 ⟨rfl, hw2⟩; rw [hw2]; clear hw2 w2)
                      go_roundg (mf - (k + 1))
                      case measure => omega
                      case rel => exact ⟨k + 1, f + 2, by omega, by go_num, by simp only [Int.natCast_add]; rfl, by have := KJ.out; omega, F.out⟩
                    · have e1 : (f : Int) / 2 % 2 = 1 := by omega
                      rw [if_neg hb] at ST
                      have F := hid ST
                      clear ST hb g lt
                      go_wp2_with (go_at_call 24; refine (BI.out _).mono ?_; rintro e w2 ⟨rfl, hw2⟩; rw [hw2]; clear hw2 w2)
                      go_roundg (mf - (k + 1))
                      case measure => omega
                      case rel => exact ⟨k + 1, f, by omega, by go_num, rfl, by have := KJ.out; omega, F.out⟩
                  · rw [show (2 : Nat) ^ ((2 : Int)).toNat = 4 from rfl] at ST
                    rw [show (2 : Int) ^ ((2 : Int)).toNat = 4 from rfl] at BI
                    by_cases hb : f / 4 % 2 = 0
                    · have e1 : (f : Int) / 4 % 2 = 0 := by omega
                      rw [if_pos hb] at ST
                      have F := hid ST
                      clear ST hb g lt
                      go_wp2_with (go_at_call 24; refine (BI.out _).mono ?_; rintro e w2 ⟨rfl, hw2⟩; rw [hw2]; clear hw2 w2)
                      go_roundg (mf - (k + 1))
                      case measure => omega
                      case rel => exact ⟨k + 1, f + 4, by omega, by go_num, by simp only [Int.natCast_add]; rfl, by have := KJ.out; omega, F.out⟩
                    · have e1 : (f : Int) / 4 % 2 = 1 := by omega
                      rw [if_neg hb] at ST
                      have F := hid ST
                      clear ST hb g lt
                      go_wp2_with (go_at_call 24; refine (BI.out _).mono ?_; rintro e w2 ⟨rfl, hw2⟩; rw [hw2]; clear hw2 w2)
                      go_roundg (mf - (k + 1))
                      case measure => omega
                      case rel => exact ⟨k + 1, f, by omega, by go_num, rfl, by have := KJ.out; omega, F.out⟩
                  · rw [show (2 : Nat) ^ ((3 : Int)).toNat = 8 from rfl] at ST
                    rw [show (2 : Int) ^ ((3 : Int)).toNat = 8 from rfl] at BI
                    by_cases hb : f / 8 % 2 = 0
                    · have e1 : (f : Int) / 8 % 2 = 0 := by omega
                      rw [if_pos hb] at ST
                      have F := hid ST
                      clear ST hb g lt
                      go_wp2_with (go_at_call 24; refine (BI.out _).mono ?_; rintro e w2 ⟨rfl, hw2⟩; rw [hw2]; clear hw2 w2)
                      go_roundg (mf - (k + 1))
                      case measure => omega
                      case rel => exact ⟨k + 1, f + 8, by omega, by go_num, by simp only [Int.natCast_add]; rfl, by have := KJ.out; omega, F.out⟩
                    · have e1 : (f : Int) / 8 % 2 = 1 := by omega
                      rw [if_neg hb] at ST
                      have F := hid ST
                      clear ST hb g lt
                      go_wp2_with (go_at_call 24; refine (BI.out _).mono ?_; rintro e w2 ⟨rfl, hw2⟩; rw [hw2]; clear hw2 w2)
                      go_roundg (mf - (k + 1))
                      case measure => omega
                      case rel => exact ⟨k + 1, f, by omega, by go_num, rfl, by have := KJ.out; omega, F.out⟩
                  · rw [show (2 : Nat) ^ ((4 : Int)).toNat = 16 from rfl] at ST
                    rw [show (2 : Int) ^ ((4 : Int)).toNat = 16 from rfl] at BI
                    by_cases hb : f / 16 % 2 = 0
                    · have e1 : (f : Int) / 16 % 2 = 0 := by omega
                      rw [if_pos hb] at ST
                      have F := hid ST
                      clear ST hb g lt
                      go_wp2_with (go_at_call 24; refine (BI.out _).mono ?_; rintro e w2 ⟨rfl, hw2⟩; rw [hw2]; clear hw2 w2)
                      go_roundg (mf - (k + 1))
                      case measure => omega
                      case rel => exact ⟨k + 1, f + 16, by omega, by go_num, by simp only [Int.natCast_add]; rfl, by have := KJ.out; omega, F.out⟩
                    · have e1 : (f : Int) / 16 % 2 = 1 := by omega
                      rw [if_neg hb] at ST
                      have F := hid ST
                      clear ST hb g lt
                      go_wp2_with (go_at_call 24; refine (BI.out _).mono ?_; rintro e w2 ⟨rfl, hw2⟩; rw [hw2]; clear hw2 w2)
                      go_roundg (mf - (k + 1))
                      case measure => omega
                      case rel => exact ⟨k + 1, f, by omega, by go_num, rfl, by have := KJ.out; omega, F.out⟩
                · have kli : ¬ (k : Int) < (mf : Int) := by omega
                  have E : Hid (f = fl) := FD.out f (by have q := J.out.2; rw [show k = mf by omega] at q; exact q)
                  clear J
                  go_wp2_with fail
                  go_meet
                  rw [E.out]
          case rest =>
          have hwc := hcut
          subst hwc
          clear FL FD FZ
          go_upto_region 21 with fail
          go_cut [90] (fun v wx => v = .bool (decide (mf < mw)) ∧ wx = (w1.alloc (.cells #[.int .i64 (mf : Int), .int .i64 (mw : Int), .int .i64 (mp : Int)] 52)).alloc (.cells #[.string ⟨#[]⟩, .int .u8 0, .int .i64 (fl : Int), .int .i64 0, .int .i64 0, .int .i64 0, .int .i64 0] 25))
          case first =>
            as_aux_lemma =>
              go_wp2_with fail
              go_meet
              exact ⟨rfl, rfl⟩
          case rest =>
          obtain ⟨h90, hwc⟩ := hcut
          subst hwc
          subst h90
          go_upto_if 90 with fail
          go_cut [91] (fun _ wx => wx = (w1.alloc (.cells #[.int .i64 (mf : Int), .int .i64 (mw : Int), .int .i64 (mp : Int)] 52)).alloc (.cells #[.string ⟨#[]⟩, .int .u8 0, .int .i64 (fl : Int), .int .i64 wk, .int .i64 wv, .int .i64 0, .int .i64 0] 25))
          case first =>
            as_aux_lemma =>
              rcases WC.out with ⟨a, b, c⟩ | ⟨a, b, c, d⟩ | ⟨a, b, c, d⟩
              · have l : decide (mf < mw) = false := by simp; omega
                rw [l]
                clear WC
                have BB := hid b
                have CC := hid c
                clear a b c
                go_wp2_with fail
                go_meet
                rw [BB.out, CC.out]
              · have l : decide (mf < mw) = true := by simp; omega
                rw [l]
                have ms : mf < s.size := by omega
                have msi : (mf : Int) < (s.size : Int) := by omega
                have ki : ∀ h : mf < s.size, ((s[mf]'h).toNat : Int) = 42 := fun h => b ▸ HS.out mf h
                have BB := hid c
                have CC := hid d
                clear a b c d WC
                go_wp2_with fail
                go_meet
                rw [BB.out, CC.out]
              · have l : decide (mf < mw) = true := by simp; omega
                rw [l]
                have ms : mf < s.size := by omega
                have msi : (mf : Int) < (s.size : Int) := by omega
                have mi : (mf : Int) < (mw : Int) := by omega
                have mn : mf < mw := by omega
                have mwi : (mw : Int) ≤ (s.size : Int) := by omega
                have mwn : mw ≤ s.size := by omega
                obtain ⟨x, hx⟩ : ∃ x, Dr.nx xs mf = x := ⟨_, rfl⟩
                have ki : ∀ h : mf < s.size, ((s[mf]'h).toNat : Int) = x := fun h => hx ▸ HS.out mf h
                have x4 : (x == 42) = false := by rw [← hx]; simpa using b
                have BB := hid c
                have DD := hid d
                clear b c d WC hx B1 B2 B3 B4 O1 O2 O3 O4 O5 PC J1 J2 I3 t1 mwn
                go_wp2_with (go_at_call 25; refine (DD.out _).mono ?_; rintro e w2 ⟨rfl, hw2⟩; rw [hw2]; clear hw2 w2)
                go_meet
                rw [BB.out]
          case rest =>
          have hwc := hcut
          subst hwc
          clear WC
          by_cases hw : 4096 < wv
          · have KF : Hid (∀ n, PaTold w xs (.returned (.tuple #[.slice none 0 0, .int .i64 (mf : Int), .int .i64 6])) (((w1.alloc (.cells #[.int .i64 (mf : Int), .int .i64 (mw : Int), .int .i64 (mp : Int)] 52)).alloc (.cells #[.string ⟨#[]⟩, .int .u8 0, .int .i64 (fl : Int), .int .i64 wk, .int .i64 wv, .int .i64 0, .int .i64 0] 25)).drewN n)) := by
              intro n
              rw [PaTold, O1.out hw]
              exact ⟨_, rfl, RowP.nil _ _, below_drewN (below_on (below_on J1.out (alloc_b _ _)) (alloc_b _ _)) n⟩
            clear O1 O2 O3 O4 O5 PC J1 J2
            go_wp2_with fail
            go_quiet (fail)
            go_wp2_with fail
            go_ret3
            exact KF.out _
          · have hw' : wv ≤ 4096 := by omega
            have O2 := hid (O2.out hw')
            have O3 := hid (O3.out hw')
            have O4 := hid (O4.out hw')
            have O5 := hid (O5.out hw')
            clear O1 hw'
            go_upto_region 28 with fail
            go_cut [115] (fun v wx => v = .bool (decide (mw < mp)) ∧ wx = (w1.alloc (.cells #[.int .i64 (mf : Int), .int .i64 (mw : Int), .int .i64 (mp : Int)] 52)).alloc (.cells #[.string ⟨#[]⟩, .int .u8 0, .int .i64 (fl : Int), .int .i64 wk, .int .i64 wv, .int .i64 0, .int .i64 0] 25))
            case first =>
              as_aux_lemma =>
                go_wp2_with fail
                go_meet
                exact ⟨rfl, rfl⟩
            case rest =>
            obtain ⟨h115, hwc⟩ := hcut
            subst hwc
            subst h115
            go_upto_if 115 with fail
            go_cut [116] (fun _ wx => wx = (w1.alloc (.cells #[.int .i64 (mf : Int), .int .i64 (mw : Int), .int .i64 (mp : Int)] 52)).alloc (.cells #[.string ⟨#[]⟩, .int .u8 0, .int .i64 (fl : Int), .int .i64 wk, .int .i64 wv, .int .i64 pk, .int .i64 pv] 25))
            case first =>
              as_aux_lemma =>
                rcases PC.out with ⟨a, b, c⟩ | ⟨a, a2, b, c, d⟩ | ⟨a, b, c, d⟩
                · have l : decide (mw < mp) = false := by simp; omega
                  rw [l]
                  have BB := hid b
                  have CC := hid c
                  clear PC a b c
                  go_wp2_with fail
                  go_meet
                  rw [BB.out, CC.out]
                · have l : decide (mw < mp) = true := by simp; omega
                  rw [l]
                  have ms : mw + 1 < s.size := by omega
                  have msi : (mw : Int) + 1 < (s.size : Int) := by omega
                  have mz : (mw : Int) + 1 ≤ 1099511627777 := by omega
                  have ne1 : ((mp : Int) == (mw : Int) + 1) = false := by simp; omega
                  have ki : ∀ h : mw + 1 < s.size, ((s[mw + 1]'h).toNat : Int) = 42 := fun h => b ▸ HS.out (mw + 1) h
                  have BB := hid c
                  have CC := hid d
                  clear a a2 b c d PC
                  go_wp2_with fail
                  go_meet
                  rw [BB.out, CC.out]
                · have l : decide (mw < mp) = true := by simp; omega
                  rw [l]
                  have mz : (mw : Int) + 1 ≤ 1099511627777 := by omega
                  have mpi : (mp : Int) ≤ (s.size : Int) := by omega
                  have BB := hid c
                  have DD := hid d
                  clear c d PC
                  by_cases q : mp = mw + 1
                  · have ne1 : ((mp : Int) == (mw : Int) + 1) = true := by simp; omega
                    have Q := hid q
                    have mi : (mw : Int) + 1 ≤ (mp : Int) := by omega
                    have mn : mw + 1 ≤ mp := by omega
                    clear a b q
                    go_wp2_with (go_at_call 25; refine (DD.out _).mono ?_; rintro e w2 ⟨rfl, hw2⟩; rw [hw2]; clear hw2 w2)
                    go_meet
                    rw [BB.out]
                  · have ne1 : ((mp : Int) == (mw : Int) + 1) = false := by simp; omega
                    have b2 : Dr.nx xs (mw + 1) ≠ 42 := by
                      rcases b with b | b
                      · exact absurd b q
                      · exact b
                    have ms : mw + 1 < s.size := by omega
                    have msi : (mw : Int) + 1 < (s.size : Int) := by omega
                    obtain ⟨x, hx⟩ : ∃ x, Dr.nx xs (mw + 1) = x := ⟨_, rfl⟩
                    have ki : ∀ h : mw + 1 < s.size, ((s[mw + 1]'h).toNat : Int) = x := fun h => hx ▸ HS.out (mw + 1) h
                    have x4 : (x == 42) = false := by rw [← hx]; simpa using b2
                    have mi : (mw : Int) + 1 < (mp : Int) := by omega
                    have mn : mw + 1 < mp := by omega
                    clear a b b2 q hx B1 B2 B3 B4 O2 O3 O4 O5 J1 J2 I3 t1 hw HL jx mz
                    go_upto_region 32 with fail
                    clear ki x4 ms
                    go_wp2_with (go_at_call 25; refine (DD.out _).mono ?_; rintro e w2 ⟨rfl, hw2⟩; rw [hw2]; clear hw2 w2)
                    go_meet
                    rw [BB.out]
            case rest =>
            have hwc := hcut
            subst hwc
            clear PC
            by_cases hp : 4096 < pv
            · have KF : Hid (∀ n, PaTold w xs (.returned (.tuple #[.slice none 0 0, .int .i64 ((mw : Int) + 1), .int .i64 6])) (((w1.alloc (.cells #[.int .i64 (mf : Int), .int .i64 (mw : Int), .int .i64 (mp : Int)] 52)).alloc (.cells #[.string ⟨#[]⟩, .int .u8 0, .int .i64 (fl : Int), .int .i64 wk, .int .i64 wv, .int .i64 pk, .int .i64 pv] 25)).drewN n)) := by
                intro n
                rw [PaTold, O2.out hp]
                exact ⟨_, rfl, RowP.nil _ _, below_drewN (below_on (below_on J1.out (alloc_b _ _)) (alloc_b _ _)) n⟩
              have mz : (mw : Int) + 1 ≤ 1099511627777 := by omega
              clear O2 O3 O4 O5 J1 J2
              go_wp2_with fail
              go_quiet (fail)
              go_wp2_with fail
              go_ret3
              exact KF.out _
            · have hp' : pv ≤ 4096 := by omega
              have O3 := hid (O3.out hp')
              have O4 := hid (O4.out hp')
              have O5 := hid (O5.out hp')
              clear O2 hp'
              by_cases he : mp = s.size
              · have hei : ((mp : Int) == (s.size : Int)) = true := by simp; omega
                have KF : Hid (PaTold w xs (.returned (.tuple #[.slice none 0 0, .int .i64 (s.size : Int), .int .i64 131])) ((w1.alloc (.cells #[.int .i64 (mf : Int), .int .i64 (mw : Int), .int .i64 (mp : Int)] 52)).alloc (.cells #[.string ⟨#[]⟩, .int .u8 0, .int .i64 (fl : Int), .int .i64 wk, .int .i64 wv, .int .i64 pk, .int .i64 pv] 25))) := by
                  show PaTold _ _ _ _
                  rw [PaTold, O3.out (by rw [he, SX.out]), SX.out]
                  exact ⟨_, rfl, RowP.nil _ _, below_on (below_on J1.out (alloc_b _ _)) (alloc_b _ _)⟩
                clear O3 O4 O5 J1 J2 he
                go_wp2_with fail
                go_ret3
                exact KF.out
              · have hei : ((mp : Int) == (s.size : Int)) = false := by simp; omega
                have hlt : mp < s.size := by omega
                have hlti : (mp : Int) < (s.size : Int) := by omega
                have O4 := hid (O4.out (by rw [← SX.out]; exact hlt))
                have O5 := hid (O5.out (by rw [← SX.out]; exact hlt))
                obtain ⟨x, hx⟩ : ∃ x, Dr.nx xs mp = x := ⟨_, rfl⟩
                have ki : ∀ h : mp < s.size, ((s[mp]'h).toNat : Int) = x := fun h => hx ▸ HS.out mp h
                rw [hx] at O4 O5
                have AT := hid (fun W => rat_any ⟨#[100, 105, 111, 117, 120, 88, 99, 115, 101, 69, 102, 70, 103, 71]⟩ Dr.verbs x W rfl (by decide))
                clear O3 he hx
                by_cases hv : Dr.idx Dr.verbs x < 0
                · have KF : Hid (∀ n, PaTold w xs (.returned (.tuple #[.slice none 0 0, .int .i64 (mp : Int), .int .i64 130])) (((w1.alloc (.cells #[.int .i64 (mf : Int), .int .i64 (mw : Int), .int .i64 (mp : Int)] 52)).alloc (.cells #[.string ⟨#[]⟩, .int .u8 x, .int .i64 (fl : Int), .int .i64 wk, .int .i64 wv, .int .i64 pk, .int .i64 pv] 25)).drewN n)) := by
                    intro n
                    rw [PaTold, O4.out hv]
                    exact ⟨_, rfl, RowP.nil _ _, below_drewN (below_on (below_on J1.out (alloc_b _ _)) (alloc_b _ _)) n⟩
                  clear O4 O5 J1 J2
                  go_wp2_with (go_at_call 26; refine (AT.out _).mono ?_; rintro e w2 ⟨rfl, hw2⟩; rw [hw2]; clear hw2 w2)
                  go_quiet (fail)
                  go_wp2_with fail
                  go_ret3
                  exact KF.out _
                · have RW : Hid (RowP w.heap.size ((w1.alloc (.cells #[.int .i64 (mf : Int), .int .i64 (mw : Int), .int .i64 (mp : Int)] 52)).alloc (.cells #[.string ⟨#[]⟩, .int .u8 x, .int .i64 (fl : Int), .int .i64 wk, .int .i64 wv, .int .i64 pk, .int .i64 pv] 25)) u5 D) := (J2.out.below (alloc_b _ _)).below (alloc_b _ _)
                  have BW : Hid (Below w.heap.size w ((w1.alloc (.cells #[.int .i64 (mf : Int), .int .i64 (mw : Int), .int .i64 (mp : Int)] 52)).alloc (.cells #[.string ⟨#[]⟩, .int .u8 x, .int .i64 (fl : Int), .int .i64 wk, .int .i64 wv, .int .i64 pk, .int .i64 pv] 25))) := below_on (below_on J1.out (alloc_b _ _)) (alloc_b _ _)
                  obtain ⟨mv', w2, ap, q1, q2, q3, q4⟩ := RW.out.push ⟨[], x, fl, wk, wv, pk, pv⟩ (by have := I3.out; have := HL.out; have := jx.out; omega) BW.out.size
                  have F : Hid (Below w.heap.size w w2 ∧ RowP w.heap.size w2 mv' (D ++ [⟨[], x, fl, wk, wv, pk, pv⟩]) ∧ Sofar xs (mp + 1) (D ++ [⟨[], x, fl, wk, wv, pk, pv⟩]) ∧ (D ++ [(⟨[], x, fl, wk, wv, pk, pv⟩ : Dr.Pc)]).length ≤ mp + 1) :=
                    ⟨BW.out.trans q3, q1, O5.out (by omega), by have := I3.out; simp only [List.length_append, List.length_cons, List.length_nil]; omega⟩
                  have AP : Hid ((Builtin.append_ #[26, 26] 26 #[u5, .slice (some ⟨((w1.alloc (.cells #[.int .i64 (mf : Int), .int .i64 (mw : Int), .int .i64 (mp : Int)] 52)).alloc (.cells #[.string ⟨#[]⟩, .int .u8 x, .int .i64 (fl : Int), .int .i64 wk, .int .i64 wv, .int .i64 pk, .int .i64 pv] 25)).heap.size, 0, none⟩) 1 1]).run Tryd.prog (((w1.alloc (.cells #[.int .i64 (mf : Int), .int .i64 (mw : Int), .int .i64 (mp : Int)] 52)).alloc (.cells #[.string ⟨#[]⟩, .int .u8 x, .int .i64 (fl : Int), .int .i64 wk, .int .i64 wv, .int .i64 pk, .int .i64 pv] 25)).alloc (.cells #[.string ⟨#[]⟩, .int .u8 x, .int .i64 (fl : Int), .int .i64 wk, .int .i64 wv, .int .i64 pk, .int .i64 pv] 25)) = .ok mv' w2) := ap
                  have PB := hid (P7.new (w1.alloc (.cells #[.int .i64 (mf : Int), .int .i64 (mw : Int), .int .i64 (mp : Int)] 52)) (.string ⟨#[]⟩) (.int .u8 x) (.int .i64 (fl : Int)) (.int .i64 wk) (.int .i64 wv) (.int .i64 pk) (.int .i64 pv))
                  have M2 : Hid (((w1.alloc (.cells #[.int .i64 (mf : Int), .int .i64 (mw : Int), .int .i64 (mp : Int)] 52)).alloc (.cells #[.string ⟨#[]⟩, .int .u8 x, .int .i64 (fl : Int), .int .i64 wk, .int .i64 wv, .int .i64 pk, .int .i64 pv] 25)).cell? ⟨w1.heap.size, 2, none⟩ = some (.int .i64 (mp : Int))) := by
                    have h := heap_alloc2_old w1 (.cells #[.int .i64 (mf : Int), .int .i64 (mw : Int), .int .i64 (mp : Int)] 52) (.cells #[.string ⟨#[]⟩, .int .u8 x, .int .i64 (fl : Int), .int .i64 wk, .int .i64 wv, .int .i64 pk, .int .i64 pv] 25)
                    simp only [Hid, World.cell?, h]; rfl
                  have M4 : Hid (w2.cell? ⟨w1.heap.size, 2, none⟩ = some (.int .i64 (mp : Int))) := by
                    have e := q4 w1.heap.size (by simp only [World.size_alloc]; omega) (fun e => by have := (World.ownsRow.lt J2.out _ e.symm).2; omega)
                    have m := M2.out
                    simp only [World.cell?] at m
                    simp only [Hid, World.cell?]
                    rw [e]; exact m
                  rw [World.size_alloc] at PB
                  have mz : (mp : Int) + 1 ≤ 1099511627777 := by omega
                  clear ap q1 q2 q3 q4 RW BW O4 O5 J1 J2
                  have mz2 := hid mz
                  have ME : Hid (mp < s.size ∧ tt + gk = xs.length ∧ tt < mp) := ⟨hlt, hj, by omega⟩
                  clear mz B1 B2 B3 B4 t1 hw I3
                  generalize Dr.idx Dr.verbs x = vi at *
                  go_upto_if 162 with (go_at_call 26; refine (AT.out _).mono ?_; rintro e w3 ⟨rfl, hw3⟩; rw [hw3]; clear hw3 w3)
                  clear hp ki hlt hlti hei
                  generalize (w1.alloc (.cells #[.int .i64 (mf : Int), .int .i64 (mw : Int), .int .i64 (mp : Int)] 52)).alloc (.cells #[.string ⟨#[]⟩, .int .u8 x, .int .i64 (fl : Int), .int .i64 wk, .int .i64 wv, .int .i64 pk, .int .i64 pv] 25) = wA at *
                  refine wp_cond_false (show Value.bool (decide (vi < 0)) = .bool false by rw [decide_eq_false (by omega)]) ?_
                  obtain ⟨⟨b0, b1, b2, b3, b4, b5, b6⟩, -⟩ := PB.out.cells
                  have M3 := M4.out
                  clear M2 PB hv hsz hj jl jli szw
                  go_upto_region 41 with (at_builtin; refine wpList_append_b rfl _ _ rfl AP.out (by rfl) (by rfl) ?_; clear AP)
                  have mz := mz2.out
                  clear mz2
                  go_wp2_with fail
                  go_roundg (xs.length - (mp + 1))
                  case measure => have := SX.out; have := ME.out; omega
                  case rel => exact ⟨mp + 1, _, by have := SX.out; have := ME.out; omega, by go_num, F.out⟩
      · obtain ⟨p1, p2, p3⟩ := Dr.piece_text h37
        have qp := Dr.qu_pos (l := xs.drop j) (Dr.drop_ne jx.out)
        have te : j + Dr.qu (xs.drop j) = tt := by rw [p3]; exact TT.out
        have tj : (j : Int) < (tt : Int) := by omega
        have tj1 : j < tt := by omega
        have tli : (tt : Int) ≤ (s.size : Int) := by omega
        obtain ⟨mv', w2, ap, q1, q2, q3, q4⟩ := I.out.2.1.push (Dr.qp (xs.drop j)) (by have := I.out.2.2.2; have := HL.out; have := jx.out; omega) szw
        have F : Hid (Below w.heap.size w w2 ∧ RowP w.heap.size w2 mv' (D ++ [Dr.qp (xs.drop j)]) ∧ Sofar xs tt (D ++ [Dr.qp (xs.drop j)]) ∧ (D ++ [Dr.qp (xs.drop j)]).length ≤ tt) := by
          refine ⟨I.out.1.trans q3, q1, ?_, ?_⟩
          · rw [← te]; exact I.out.2.2.1.step jx.out p1
          · have := I.out.2.2.2
            simp only [List.length_append, List.length_cons, List.length_nil]; omega
        have AP : Hid ((Builtin.append_ #[26, 26] 26 #[u5, .slice (some ⟨wc.heap.size, 0, none⟩) 1 1]).run Tryd.prog (wc.alloc (.cells #[.string (s.extract j tt), .int .u8 0, .int .i64 0, .int .i64 0, .int .i64 0, .int .i64 0, .int .i64 0] 25)) = .ok mv' w2) := by
          rw [p2] at ap
          rw [rparse_text HSs.out j tt, show tt - j = Dr.ct Dr.isX (xs.drop j) by have := TT.out; omega]
          exact ap
        clear ap q1 q2 q3 q4 p1 p2 p3 h37 TT I qp te
        go_wp2_with (at_builtin; refine wpList_append_b rfl _ _ rfl AP.out (by rfl) (by rfl) ?_; clear AP)
        go_roundg (xs.length - tt)
        case measure => have := SX.out; omega
        case rel => exact ⟨tt, _, by have := SX.out; omega, rfl, F.out⟩
    · have jli : ¬ (j : Int) < (s.size : Int) := by omega
      have KF : Hid (∀ mv, RowP w.heap.size wr mv D → PaTold w xs (.returned (.tuple #[mv, .int .i64 0, .int .i64 0])) wr) := by
        intro mv h
        have e : Dr.prs xs = (D, 0, 0) := by have q := I.out.2.2.1; rw [show j = xs.length by have := SX.out; omega] at q; exact q.done
        rw [PaTold, e]
        exact ⟨_, rfl, h, I.out.1⟩
      have RW := hid I.out.2.1
      clear I
      go_wp2_with fail
      go_ret3
      exact KF.out _ RW.out
end Go.Proofs.YtaadooippelcfaaDoor
