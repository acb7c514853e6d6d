/-
  Texts put together: FRounded, FZeros, FZero.
-/
import Derived.Test.YtbdbpjghmejfjaaGreatDoorRI
import Derived.Test.YtbdbpjghmejfjaaGreatDoorRG
import Derived.Test.YtbdbpjghmejfjaaGreatDoorNMem
import Derived.Test.YtbdbpjghmejfjaaGreatDoorNStr
import Derived.Test.YtbdbpjghmejfjaaGreatDoorNRaise
import Derived.Test.YtbdbpjghmejfjaaGreatDoorRF
namespace Go.Proofs.YtbdbpjghmejfjaaGreatDoor
open Go Go.RowKit Go.Deep

set_option maxRecDepth 100000 in
set_option maxHeartbeats 4000000 in
theorem lrounded_any (s : ByteArray) (xs : List Int) (k : Nat) (w : World) (hs : Str s xs) (hd : Digs xs) (hk : k ≤ xs.length) (hl : xs.length ≤ 20000) :
    Calls Tryz.prog 22 #[.string s, .int .i64 (k : Int)] w fun e w' => ∃ s', e = .returned (.string s') ∧ Str s' (Fx.rd xs k) ∧ Below w.heap.size w w' := by
  obtain ⟨n, hn⟩ : ∃ n, s.size = n := ⟨_, rfl⟩
  have hxn : xs.length = n := by rw [← hs.size, hn]
  have ST := hs.extract 0 k
  rw [List.drop_zero, Nat.sub_zero] at ST
  have SD := hs.extract k n
  rw [List.take_of_length_le (by simp; omega)] at SD
  have lk : (xs.take k).length = k := by rw [List.length_take]; omega
  have z1 : (s.extract 0 k).size = k := by rw [ST.size, lk]
  have z2 : (s.extract k n).size = n - k := by rw [SD.size, List.length_drop, hxn]
  obtain ⟨cap, es, w1, CV, OF, est, esl, BW⟩ := bytes_made ST w
  rw [z1] at CV
  rw [lk] at est esl
  obtain ⟨g, HG⟩ : ∃ g, Hid (w.heap.size = g) := ⟨_, rfl⟩
  rw [HG.out] at OF CV
  have dk : Digs (xs.take k) := fun d h => hd d (List.mem_of_mem_take h)
  have dd : Digs (xs.drop k) := fun d h => hd d (List.mem_of_mem_drop h)
  have hki : (k : Int) ≤ (n : Int) := by omega
  have hnb : (n : Int) ≤ 20000 := by omega
  obtain ⟨s0, hs0, cv0⟩ := own_str (cap := cap) OF esl (by rw [est]; exact dk)
  rw [est] at hs0
  have HBW := hid BW
  have HOF := hid OF
  have HEST := hid est
  have HESL := hid esl
  have HDK := hid dk
  have KEEP : Hid (Fx.up xs k = false → Str s0 (Fx.rd xs k)) := fun h => by rw [Fx.rd_keep hd hk h]; exact hs0
  have MORE : Hid (UpIs (xs.take k) (xs.drop k) false true → ∀ ds c, Raised (xs.take k) ds c → ∀ s', Str s' ds → if c = true then Str (⟨#[49]⟩ ++ s') (Fx.rd xs k) else Str s' (Fx.rd xs k)) := by
    intro h ds c R s' h'
    rw [← Fx.rd_more hd hk h R]
    cases c
    · exact h'
    · exact str_one.app h'
  by_cases hm : k = n
  · have e1 : s.extract k n = ⟨#[]⟩ := SD.inj (by rw [hm, ← hxn, List.drop_length]; rfl)
    have F := hid (KEEP.out (by rw [hm, ← hxn]; exact Fx.up_full xs))
    clear OF est esl BW dk dd hs hd hk hl ST SD z2 lk hs0 MORE KEEP hm
    go_enter Tryz.func22, Tryz.ntmps22
    go_upto_region 3 with fail
    generalize s.extract k n = r at *
    subst e1
    go_wp2_with fail
    go_ret
    exact ⟨_, rfl, F.out, HBW.out⟩
  · obtain ⟨x, rest, hxr⟩ : ∃ x rest, xs.drop k = x :: rest := by
      rcases hc : xs.drop k with _ | ⟨x, rest⟩
      · have := congrArg List.length hc
        simp at this
        omega
      · exact ⟨x, rest, rfl⟩
    obtain ⟨m, hmm⟩ : ∃ m, n - k = m := ⟨_, rfl⟩
    have rl : rest.length + 1 = m := by
      have := congrArg List.length hxr
      simp at this
      omega
    rw [hmm] at z2
    have ne := SD.ne' (by rw [hxr]; simp)
    rw [hxr] at SD dd MORE
    have xd := dd x (by simp)
    have rdd : Digs rest := fun d h => dd d (by simp [h])
    have hx : ∀ h : 0 < (s.extract k n).size, (((s.extract k n)[0]'h).toNat : Int) = x := fun h => by rw [SD.at 0 h]; rfl
    have HSD := hid SD
    have mb : (m : Int) ≤ 20000 := by omega
    have m0 : (0 : Int) < (m : Int) := by omega
    by_cases h5 : x < 53
    · have F := hid (KEEP.out (Fx.up_of (by rw [hxr]; exact up_under rfl dd h5)))
      obtain ⟨n1, n2⟩ := ne
      clear OF est esl BW dk dd hs hd hk hl ST SD lk hs0 MORE KEEP hxr
      go_enter Tryz.func22, Tryz.ntmps22
      go_wp2_with fail
      go_ret
      exact ⟨_, rfl, F.out, HBW.out⟩
    · obtain ⟨n1, n2⟩ := ne
      have KEEP2 : Hid (x = 53 → dv rest = 0 → dv (xs.take k) % 2 = 0 → Str s0 (Fx.rd xs k)) := by
        intro h1 h2 h3
        apply KEEP.out
        apply Fx.up_of
        rw [hxr]
        exact up_half (by rw [h1]) dd h2 (by rw [h3]; rfl)
      have MORE2 : Hid (¬ (x = 53 ∧ dv rest = 0 ∧ dv (xs.take k) % 2 = 0) → ∀ ds c, Raised (xs.take k) ds c → ∀ s', Str s' ds → if c = true then Str (⟨#[49]⟩ ++ s') (Fx.rd xs k) else Str s' (Fx.rd xs k)) := by
        intro h
        apply MORE.out
        rcases (show 53 < x ∨ x = 53 by omega) with c | c
        · exact up_over rfl dd c
        · rcases (show dv rest ≠ 0 ∨ dv rest = 0 by omega) with c2 | c2
          · exact up_rest (by rw [c]) dd c2
          · have b := (dv_bd HDK.out).1
            exact up_half (by rw [c]) dd c2 (by rw [show dv (xs.take k) % 2 = 1 by omega]; rfl)
      have DZ : Hid (dv rest = 0 ↔ ∀ i, i < rest.length → rest.getD i 0 = 48) := dv_zero_iff rdd
      have LA : Hid (∀ t : Nat, k = t + 1 → es.getD t 0 % 2 = dv (xs.take k) % 2 ∧ 48 ≤ es.getD t 0 ∧ es.getD t 0 ≤ 57) := by
        intro t ht
        have e : es.getD t 0 = (xs.take k).getD t 0 := by rw [← HEST.out, Nm.getD_take, if_pos (by omega)]
        rw [e]
        refine ⟨(dv_last (by rw [lk]; exact ht)).symm, ?_⟩
        exact digs_at HDK.out t (by omega)
      have DGH : ∀ u, u < k → 48 ≤ es.getD u 0 ∧ es.getD u 0 ≤ 57 := fun u hu => by
        have e : es.getD u 0 = (xs.take k).getD u 0 := by rw [← HEST.out, Nm.getD_take, if_pos (by omega)]
        rw [e]
        exact digs_at HDK.out u (by omega)
      have K0 : Hid (k = 0 → dv (xs.take k) % 2 = 0) := fun h => by rw [h]; rfl
      have RA : Hid (∀ (h : ∀ i, 0 ≤ i → i < k → es.getD i 0 = 57), Raised (xs.take k) ((put es 0 (List.replicate k 48)).take k) true) := fun h => by
        have := raised_all HESL.out h
        rw [HEST.out] at this
        exact this
      have RB : Hid (∀ (u : Nat) (y : Int), u < k → es.getD u 0 = y → y ≠ 57 → (∀ i, u + 1 ≤ i → i < k → es.getD i 0 = 57) → Raised (xs.take k) ((put es u ((y + 1) :: List.replicate (k - (u + 1)) 48)).take k) false) := fun u y hu hy h9 h => by
        have := raised_at HESL.out hu hy h9 (by rw [HEST.out]; exact HDK.out) h
        rw [HEST.out] at this
        exact this
      have CONV : Hid (∀ (W : World) (fs : List Int), OwnF W g fs → k ≤ fs.length → Digs (fs.take k) → ∃ s', Str s' (fs.take k) ∧ (convert 70 9 (.slice (some ⟨g, 0, none⟩) k cap)).run Tryz.prog W = .ok (.string s') W) := fun W fs o h1 h2 => own_str o h1 h2
      have HX : Hid (∀ i, 1 ≤ i → i < m → ∃ y : Int, 48 ≤ y ∧ y ≤ 57 ∧ y = rest.getD (i - 1) 0 ∧ ∀ h : i < (s.extract k n).size, (((s.extract k n)[i]'h).toNat : Int) = y) := by
        intro i h1 h2
        have b := digs_at rdd (i - 1) (by omega)
        refine ⟨_, b.1, b.2, rfl, fun h => ?_⟩
        rw [HSD.out.at i h]
        obtain ⟨t, rfl⟩ : ∃ t, i = t + 1 := ⟨i - 1, by omega⟩
        simp
      generalize hTK : dv (xs.take k) = TK at *
      generalize dv rest = DR at *
      generalize Fx.rd xs k = RDX at *
      generalize hXT : xs.take k = XT at *
      have RLe := hid rl
      clear hTK hXT OF est esl BW dk dd hs hd hk hl SD lk hs0 MORE KEEP hxr rdd hxn rl HDK HSD ST hm
      go_enter Tryz.func22, Tryz.ntmps22
      go_upto_region 3 with fail
      generalize s.extract k n = r at *
      obtain ⟨hb, hhb⟩ : ∃ hb : Bool, (x == 53) = hb := ⟨_, rfl⟩
      have HHB := hid hhb
      have h5' : ¬ x < 53 := h5
      go_wp2_with fail
      go_loopg [7, 8] (m - 1) (fun j a b wr => wr = w1 ∧ ∃ (i : Nat) (h : Bool), i + j = m ∧ 1 ≤ i ∧ a = .bool h ∧ b = .int .i64 (i : Int) ∧ Hid (h = true ↔ (x = 53 ∧ ∀ t, t + 1 < i → rest.getD t 0 = 48)))
      case atStart =>
        refine ⟨rfl, 1, hb, by omega, Nat.le_refl _, rfl, rfl, ?_⟩
        show _ ↔ _
        rw [← HHB.out]
        constructor
        · intro h; exact ⟨by simpa using h, fun t ht => by omega⟩
        · intro h; simpa using h.1
      case round =>
        obtain ⟨rfl, i, h, hi, hi1, rfl, rfl, I⟩ := hrel
        cases gk with
        | zero =>
          have hmi : ¬ (i : Int) < (m : Int) := by omega
          have HH : Hid (h = true ↔ (x = 53 ∧ DR = 0)) := by
            show _ ↔ _
            rw [I.out, DZ.out]
            have := RLe.out
            constructor
            · rintro ⟨a, b⟩; exact ⟨a, fun t ht => b t (by omega)⟩
            · rintro ⟨a, b⟩; exact ⟨a, fun t ht => b t (by omega)⟩
          clear I DZ HX
          have UPW : Hid (¬ (h = true ∧ TK % 2 = 0) → ∀ ds c, Raised XT ds c → ∀ s', Str s' ds → if c = true then Str (⟨#[49]⟩ ++ s') RDX else Str s' RDX) := fun g => MORE2.out (fun q => g ⟨HH.out.2 ⟨q.1, q.2.1⟩, q.2.2⟩)
          have KPD : Hid (h = true → TK % 2 = 0 → Str s0 RDX) := fun a b => KEEP2.out (HH.out.1 a).1 (HH.out.1 a).2 b
          clear HH KEEP2 MORE2 HHB hhb h5' h5 hx n1 n2 RLe
          have DG : Hid (∀ u, u < k → 48 ≤ es.getD u 0 ∧ es.getD u 0 ≤ 57) := DGH
          clear DGH
          cases h
          · have U := hid (fun ds c R => UPW.out (by simp) ds c R)
            clear UPW KPD LA K0 cv0
            go_wp2_with fail
            go_loopg [9] k (fun j i wr => i = .int .i64 ((j : Int) - 1) ∧ j ≤ k ∧ Hid (OwnF wr g (put es j (List.replicate (k - j) 48)) ∧ (∀ i, j ≤ i → i < k → es.getD i 0 = 57) ∧ Below w.heap.size w wr))
            case atStart => exact ⟨rfl, Nat.le_refl _, by rw [Nat.sub_self]; simpa [put_nil] using HOF.out, fun i h1 h2 => by omega, HBW.out⟩
            case round =>
              obtain ⟨rfl, hj, I⟩ := hrel
              cases gk with
              | zero =>
                have R := RA.out I.out.2.1
                obtain ⟨s', hs', cv'⟩ := CONV.out _ _ I.out.1 (by rw [put_length _ _ _ (by simp; have := HESL.out; omega)]; exact HESL.out) R.1
                have K : Hid (Str (⟨#[49]⟩ ++ s') RDX) := U.out _ true R s' hs'
                have B := hid I.out.2.2
                have hsz : (s'.size : Int) ≤ 20000 := by rw [hs'.size, List.length_take]; omega
                clear I R hs' RA RB CONV U HBW HOF
                go_wp2_with fail
                go_ret
                exact ⟨_, rfl, K.out, B.out⟩
              | succ u =>
                rw [show ((u + 1 : Nat) : Int) - 1 = (u : Int) by omega]
                have hu : (u : Int) < (k : Int) := by omega
                have hl : (put es (u + 1) (List.replicate (k - (u + 1)) 48)).length = es.length := put_length _ _ _ (by simp; have := HESL.out; omega)
                obtain ⟨x9, X⟩ : ∃ x9, Hid (es.getD u 0 = x9) := ⟨_, rfl⟩
                have hx9 : wr.cell? ⟨g, u, none⟩ = some (.int .u8 x9) := by
                  rw [I.out.1.cell u (by rw [hl]; have := HESL.out; omega), ← X.out]
                  simp [put, List.getD, List.getElem?_append_left (show u < (es.take (u + 1)).length by simp; have := HESL.out; omega)]
                have hf := I.out.1.free u (by rw [hl]; have := HESL.out; omega)
                have hxd := DG.out u (by omega)
                rw [X.out] at hxd
                obtain ⟨hx0, hx1⟩ := hxd
                by_cases h9 : x9 = 57
                · have F : Hid (OwnF (wr.setCell ⟨g, u, none⟩ (.int .u8 48)) g (put es u (List.replicate (k - u) 48)) ∧ (∀ i, u ≤ i → i < k → es.getD i 0 = 57) ∧ Below w.heap.size w (wr.setCell ⟨g, u, none⟩ (.int .u8 48))) := by
                    refine ⟨?_, fun i h1 h2 => ?_, I.out.2.2.setCell (p := ⟨g, u, none⟩) (Nat.le_of_eq HG.out) _⟩
                    · have := I.out.1.set u 48
                      rw [put_head _ _ _ _ (by simp; have := HESL.out; omega), ← List.replicate_succ, show k - (u + 1) + 1 = k - u by omega] at this
                      exact this
                    · by_cases e : i = u
                      · subst e; rw [X.out]; exact h9
                      · exact I.out.2.1 i (by omega) h2
                  subst h9
                  clear I hl
                  go_wp2_with fail
                  go_roundg u
                  case measure => omega
                  case rel => exact ⟨by go_num, by omega, F.out⟩
                · have h9' : (x9 == 57) = false := by rw [beq_eq_false_iff_ne]; exact h9
                  have h9n : (x9 != 57) = true := by simp [bne, h9']
                  have R := RB.out u x9 (by omega) X.out h9 I.out.2.1
                  have o := I.out.1.set u (x9 + 1)
                  rw [put_head _ _ _ _ (by simp; have := HESL.out; omega)] at o
                  have B := hid (I.out.2.2.setCell (p := ⟨g, u, none⟩) (Nat.le_of_eq HG.out) (.int .u8 (x9 + 1)))
                  obtain ⟨s', hs', cv'⟩ := CONV.out _ _ o (by rw [put_length _ _ _ (by simp; have := HESL.out; omega)]; exact HESL.out) R.1
                  have K : Hid (Str s' RDX) := U.out _ false R s' hs'
                  clear I hl R o hs' RA RB CONV U HBW HOF
                  go_wp2_with fail
                  go_ret
                  exact ⟨_, rfl, K.out, B.out⟩
          · rcases Nat.eq_zero_or_pos k with hk0 | hk0
            · subst hk0
              have K := hid (KPD.out rfl (K0.out rfl))
              go_wp2_with fail
              go_ret
              exact ⟨_, rfl, K.out, HBW.out⟩
            · obtain ⟨t, ht⟩ : ∃ t, k = t + 1 := ⟨k - 1, by omega⟩
              obtain ⟨l1, l2, l3⟩ := LA.out t ht
              have hkt : (k : Int) - 1 = (t : Int) := by omega
              have htk : (t : Int) < (k : Int) := by omega
              have hk00 : ((k : Int) == 0) = false := by rw [beq_eq_false_iff_ne]; omega
              obtain ⟨y, hy⟩ : ∃ y, es.getD t 0 = y := ⟨_, rfl⟩
              have hc := HOF.out.cell t (by have := HESL.out; omega)
              rw [hy] at hc l1 l2 l3
              by_cases hev : y % 2 = 0
              · have K := hid (KPD.out rfl (by omega))
                clear UPW KPD LA K0 ht l1 hy
                go_wp2_with fail
                go_ret
                exact ⟨_, rfl, K.out, HBW.out⟩
              · have hev' : (y % 2 == 0) = false := by rw [beq_eq_false_iff_ne]; exact hev
                have U := hid (fun ds c R => UPW.out (by omega) ds c R)
                have HKT := hid hkt
                clear UPW KPD LA K0 cv0 l1 hy hev ht
                go_wp2_with fail
                go_loopg [9] k (fun j i wr => i = .int .i64 ((j : Int) - 1) ∧ j ≤ k ∧ Hid (OwnF wr g (put es j (List.replicate (k - j) 48)) ∧ (∀ i, j ≤ i → i < k → es.getD i 0 = 57) ∧ Below w.heap.size w wr))
                case atStart => exact ⟨by rw [HKT.out], Nat.le_refl _, by rw [Nat.sub_self]; simpa [put_nil] using HOF.out, fun i h1 h2 => by omega, HBW.out⟩
                case round =>
                  obtain ⟨rfl, hj, I⟩ := hrel
                  cases gk with
                  | zero =>
                    have R := RA.out I.out.2.1
                    obtain ⟨s', hs', cv'⟩ := CONV.out _ _ I.out.1 (by rw [put_length _ _ _ (by simp; have := HESL.out; omega)]; exact HESL.out) R.1
                    have K : Hid (Str (⟨#[49]⟩ ++ s') RDX) := U.out _ true R s' hs'
                    have B := hid I.out.2.2
                    have hsz : (s'.size : Int) ≤ 20000 := by rw [hs'.size, List.length_take]; omega
                    clear I R hs' RA RB CONV U HBW HOF
                    go_wp2_with fail
                    go_ret
                    exact ⟨_, rfl, K.out, B.out⟩
                  | succ u =>
                    rw [show ((u + 1 : Nat) : Int) - 1 = (u : Int) by omega]
                    have hu : (u : Int) < (k : Int) := by omega
                    have hl : (put es (u + 1) (List.replicate (k - (u + 1)) 48)).length = es.length := put_length _ _ _ (by simp; have := HESL.out; omega)
                    obtain ⟨x9, X⟩ : ∃ x9, Hid (es.getD u 0 = x9) := ⟨_, rfl⟩
                    have hx9 : wr.cell? ⟨g, u, none⟩ = some (.int .u8 x9) := by
                      rw [I.out.1.cell u (by rw [hl]; have := HESL.out; omega), ← X.out]
                      simp [put, List.getD, List.getElem?_append_left (show u < (es.take (u + 1)).length by simp; have := HESL.out; omega)]
                    have hf := I.out.1.free u (by rw [hl]; have := HESL.out; omega)
                    have hxd := DG.out u (by omega)
                    rw [X.out] at hxd
                    obtain ⟨hx0, hx1⟩ := hxd
                    by_cases h9 : x9 = 57
                    · have F : Hid (OwnF (wr.setCell ⟨g, u, none⟩ (.int .u8 48)) g (put es u (List.replicate (k - u) 48)) ∧ (∀ i, u ≤ i → i < k → es.getD i 0 = 57) ∧ Below w.heap.size w (wr.setCell ⟨g, u, none⟩ (.int .u8 48))) := by
                        refine ⟨?_, fun i h1 h2 => ?_, I.out.2.2.setCell (p := ⟨g, u, none⟩) (Nat.le_of_eq HG.out) _⟩
                        · have := I.out.1.set u 48
                          rw [put_head _ _ _ _ (by simp; have := HESL.out; omega), ← List.replicate_succ, show k - (u + 1) + 1 = k - u by omega] at this
                          exact this
                        · by_cases e : i = u
                          · subst e; rw [X.out]; exact h9
                          · exact I.out.2.1 i (by omega) h2
                      subst h9
                      clear I hl
                      go_wp2_with fail
                      go_roundg u
                      case measure => omega
                      case rel => exact ⟨by go_num, by omega, F.out⟩
                    · have h9' : (x9 == 57) = false := by rw [beq_eq_false_iff_ne]; exact h9
                      have h9n : (x9 != 57) = true := by simp [bne, h9']
                      have R := RB.out u x9 (by omega) X.out h9 I.out.2.1
                      have o := I.out.1.set u (x9 + 1)
                      rw [put_head _ _ _ _ (by simp; have := HESL.out; omega)] at o
                      have B := hid (I.out.2.2.setCell (p := ⟨g, u, none⟩) (Nat.le_of_eq HG.out) (.int .u8 (x9 + 1)))
                      obtain ⟨s', hs', cv'⟩ := CONV.out _ _ o (by rw [put_length _ _ _ (by simp; have := HESL.out; omega)]; exact HESL.out) R.1
                      have K : Hid (Str s' RDX) := U.out _ false R s' hs'
                      clear I hl R o hs' RA RB CONV U HBW HOF
                      go_wp2_with fail
                      go_ret
                      exact ⟨_, rfl, K.out, B.out⟩
        | succ u =>
          have hmi : (i : Int) < (m : Int) := by omega
          obtain ⟨y, y0, y1, hy, hyi⟩ := HX.out i hi1 (by omega)
          have HY := hid hy
          clear hy HX
          by_cases h48 : y = 48
          · have F : Hid (h = true ↔ (x = 53 ∧ ∀ t, t + 1 < i + 1 → rest.getD t 0 = 48)) := by
              show _ ↔ _
              rw [I.out]
              constructor
              · rintro ⟨a, b⟩
                refine ⟨a, fun t ht => ?_⟩
                by_cases e : t + 1 = i
                · have := HY.out; rw [show i - 1 = t by omega] at this; omega
                · exact b t (by omega)
              · rintro ⟨a, b⟩; exact ⟨a, fun t ht => b t (by omega)⟩
            subst h48
            clear I
            go_wp2_with fail
            go_roundg u
            case measure => omega
            case rel => exact ⟨rfl, i + 1, h, by omega, by omega, rfl, by go_num, F.out⟩
          · have h48' : (y == 48) = false := by rw [beq_eq_false_iff_ne]; exact h48
            have h48n : (y != 48) = true := by simp [bne, h48']
            have F : Hid (false = true ↔ (x = 53 ∧ ∀ t, t + 1 < i + 1 → rest.getD t 0 = 48)) := by
              show _ ↔ _
              constructor
              · intro a; cases a
              · rintro ⟨a, b⟩
                have := b (i - 1) (by omega)
                have := HY.out
                omega
            clear I
            go_wp2_with fail
            go_roundg u
            case measure => omega
            case rel => exact ⟨rfl, i + 1, false, by omega, by omega, rfl, by go_num, F.out⟩
end Go.Proofs.YtbdbpjghmejfjaaGreatDoor

namespace Go.Proofs.YtbdbpjghmejfjaaGreatDoor
open Go Go.RowKit Go.Deep

theorem zset (k u : Nat) : (List.replicate k (48 : Int) ++ List.replicate (u + 1) 0).set k 48 = List.replicate (k + 1) 48 ++ List.replicate u 0 := by
  rw [List.set_append_right _ _ (by simp), List.length_replicate, Nat.sub_self, List.replicate_succ, List.set_cons_zero, List.replicate_succ', List.append_assoc]
  rfl

theorem OwnB.str {w : World} {g cap : Nat} {zs : List Int} (h : OwnB w g zs) (hz : ∀ x ∈ zs, 0 ≤ x ∧ x < 256) (n : Nat) (hn : zs.length = n) :
    ∃ s, Str s zs ∧ (convert 70 9 (.slice (some ⟨g, 0, none⟩) n cap)).run Tryz.prog w = .ok (.string s) w :=
  ⟨strOfNums zs, Str.of_nums hz, run_convert_bytes_arg (P := Tryz.prog) w 70 5 Tryz.underlying70 Tryz.underlying5 g 0 n cap zs hn (fun i hi => by
    rw [Nat.zero_add, h.cell i (by omega)]) 9 Tryz.underlying9⟩

set_option maxRecDepth 100000 in
set_option maxHeartbeats 1000000 in
theorem lzeros_any (n : Nat) (w : World) (hn : n ≤ 100000) :
    Calls Tryz.prog 20 #[.int .i64 (n : Int)] w fun e w' => ∃ s, e = .returned (.string s) ∧ Str s (List.replicate n 48) ∧ Below w.heap.size w w' := by
  have mk := make8 n (by omega) w
  have bm : Below w.heap.size w (w.alloc (.cells (madeCells #[.int .u8 0] n) 5)) := (Below.refl _ _).alloc (Nat.le_refl _) _
  have ob : OwnB (w.alloc (.cells (madeCells #[.int .u8 0] n) 5)) w.heap.size (List.replicate n 0) := by rw [made_zero8]; exact OwnB.alloc w _
  obtain ⟨w1, hw1⟩ : ∃ w1, w.alloc (.cells (madeCells #[.int .u8 0] n) 5) = w1 := ⟨_, rfl⟩
  rw [hw1] at mk bm ob
  have HBM := hid bm
  have HOB := hid ob
  have hni : (n : Int) ≤ 100000 := by omega
  obtain ⟨g, HG⟩ : ∃ g, Hid (w.heap.size = g) := ⟨_, rfl⟩
  rw [HG.out] at mk HOB
  clear bm ob hw1 hn
  go_enter Tryz.func20, Tryz.ntmps20
  go_wp2_with fail
  go_loopg [4] n (fun j i wr => ∃ k : Nat, k + j = n ∧ i = .int .i64 (k : Int) ∧ Hid (OwnB wr g (List.replicate k 48 ++ List.replicate j 0) ∧ Below w.heap.size w wr))
  case atStart => exact ⟨0, by omega, rfl, by simpa using HOB.out, HBM.out⟩
  case round =>
    obtain ⟨k, hk, rfl, I⟩ := hrel
    cases gk with
    | zero =>
      obtain ⟨s, hs, cv⟩ := I.out.1.str (cap := n) (fun x hx => by simp at hx; omega) n (by simp; omega)
      have F : Hid (Str s (List.replicate n 48)) := by
        have := hs
        rw [List.replicate_zero, List.append_nil, show k = n by omega] at this
        exact this
      have B := hid I.out.2
      have hki : ¬ (k : Int) < (n : Int) := by omega
      clear hs I HBM HOB
      go_wp2_with fail
      go_ret
      exact ⟨s, rfl, F.out, B.out⟩
    | succ u =>
      have hki : (k : Int) < (n : Int) := by omega
      have hc := I.out.1.cell k (by simp)
      have hf := I.out.1.free k
      have F : Hid (OwnB (wr.setCell ⟨g, k, none⟩ (.int .u8 48)) g (List.replicate (k + 1) 48 ++ List.replicate u 0) ∧ Below w.heap.size w (wr.setCell ⟨g, k, none⟩ (.int .u8 48))) := by
        refine ⟨?_, I.out.2.setCell (p := ⟨g, k, none⟩) (Nat.le_of_eq HG.out) _⟩
        have := I.out.1.set k 48
        rw [zset] at this
        exact this
      generalize (List.replicate k (48 : Int) ++ List.replicate (u + 1) 0).getD k 0 = x at *
      clear I HBM HOB
      go_wp2_with fail
      go_roundg u
      case measure => omega
      case rel => exact ⟨k + 1, by omega, by go_num, F.out⟩

set_option maxRecDepth 100000 in
set_option maxHeartbeats 1000000 in
theorem rzeros_any (n : Nat) (w : World) (hn : n ≤ 100000) :
    Calls Tryz.prog 44 #[.int .i64 (n : Int)] w fun e w' => ∃ s, e = .returned (.string s) ∧ Str s (List.replicate n 48) ∧ Below w.heap.size w w' := by
  have mk := make8 n (by omega) w
  have bm : Below w.heap.size w (w.alloc (.cells (madeCells #[.int .u8 0] n) 5)) := (Below.refl _ _).alloc (Nat.le_refl _) _
  have ob : OwnB (w.alloc (.cells (madeCells #[.int .u8 0] n) 5)) w.heap.size (List.replicate n 0) := by rw [made_zero8]; exact OwnB.alloc w _
  obtain ⟨w1, hw1⟩ : ∃ w1, w.alloc (.cells (madeCells #[.int .u8 0] n) 5) = w1 := ⟨_, rfl⟩
  rw [hw1] at mk bm ob
  have HBM := hid bm
  have HOB := hid ob
  have hni : (n : Int) ≤ 100000 := by omega
  obtain ⟨g, HG⟩ : ∃ g, Hid (w.heap.size = g) := ⟨_, rfl⟩
  rw [HG.out] at mk HOB
  clear bm ob hw1 hn
  go_enter Tryz.func44, Tryz.ntmps44
  go_wp2_with fail
  go_loopg [4] n (fun j i wr => ∃ k : Nat, k + j = n ∧ i = .int .i64 (k : Int) ∧ Hid (OwnB wr g (List.replicate k 48 ++ List.replicate j 0) ∧ Below w.heap.size w wr))
  case atStart => exact ⟨0, by omega, rfl, by simpa using HOB.out, HBM.out⟩
  case round =>
    obtain ⟨k, hk, rfl, I⟩ := hrel
    cases gk with
    | zero =>
      obtain ⟨s, hs, cv⟩ := I.out.1.str (cap := n) (fun x hx => by simp at hx; omega) n (by simp; omega)
      have F : Hid (Str s (List.replicate n 48)) := by
        have := hs
        rw [List.replicate_zero, List.append_nil, show k = n by omega] at this
        exact this
      have B := hid I.out.2
      have hki : ¬ (k : Int) < (n : Int) := by omega
      clear hs I HBM HOB
      go_wp2_with fail
      go_ret
      exact ⟨s, rfl, F.out, B.out⟩
    | succ u =>
      have hki : (k : Int) < (n : Int) := by omega
      have hc := I.out.1.cell k (by simp)
      have hf := I.out.1.free k
      have F : Hid (OwnB (wr.setCell ⟨g, k, none⟩ (.int .u8 48)) g (List.replicate (k + 1) 48 ++ List.replicate u 0) ∧ Below w.heap.size w (wr.setCell ⟨g, k, none⟩ (.int .u8 48))) := by
        refine ⟨?_, I.out.2.setCell (p := ⟨g, k, none⟩) (Nat.le_of_eq HG.out) _⟩
        have := I.out.1.set k 48
        rw [zset] at this
        exact this
      generalize (List.replicate k (48 : Int) ++ List.replicate (u + 1) 0).getD k 0 = x at *
      clear I HBM HOB
      go_wp2_with fail
      go_roundg u
      case measure => omega
      case rel => exact ⟨k + 1, by omega, by go_num, F.out⟩
end Go.Proofs.YtbdbpjghmejfjaaGreatDoor

namespace Go.Proofs.YtbdbpjghmejfjaaGreatDoor
open Go Go.RowKit Go.Deep

theorem Ie.fzero {d : Int} (h : Ie.fnt d = true) : Ie.dm d = 0 ↔ d % 9223372036854775808 = 0 := by
  have hc : Ie.cls d < 3 := of_decide_eq_true h
  rw [← (Ie.fdec d hc).2.2.2.2]
  unfold Ie.cls Ie.fld
  constructor
  · intro g
    split at g
    · split at g <;> omega
    · split at g
      · split at g <;> omega
      · omega
  · intro g
    rw [if_pos (by omega), if_pos (by omega)]
end Go.Proofs.YtbdbpjghmejfjaaGreatDoor
