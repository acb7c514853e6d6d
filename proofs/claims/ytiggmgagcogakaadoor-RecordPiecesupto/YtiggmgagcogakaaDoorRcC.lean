/-
  record: blank, words.
-/
import Derived.Test.YtiggmgagcogakaaDoorRcB
import Derived.Test.YtiggmgagcogakaaDoorChC
import Derived.Shelf.Small.Strs
namespace Go.Proofs.YtiggmgagcogakaaDoor
open Go Go.RowKit Go.Deep Go.Shelf

attribute [local go_sem] Oper.semAt_some

theorem Rc.blank_ix : ∀ c : UInt8, (decide (0 ≤ Lib.indexByte [9, 10, 11, 12, 13, 32] c)) = Ch.bl c := by
  intro c
  have h : ∀ n : Fin 256, (decide (0 ≤ Lib.indexByte [9, 10, 11, 12, 13, 32] (UInt8.ofNat n.val))) = Ch.bl (UInt8.ofNat n.val) := by decide +kernel
  have := h ⟨c.toNat, c.toNat_lt⟩
  simpa using this

theorem rblank_yes (c : UInt8) (w : World) : Calls Tryd.prog 31 #[.int .u8 (c.toNat : Int)] w fun e w' => e = .returned (.bool (Ch.bl c)) ∧ w' = w := by
  have h := Any.strings_IndexByte rbyLays ⟨#[9, 10, 11, 12, 13, 32]⟩ (c.toNat : Int) w
  change Calls Tryd.prog 43 _ _ _ at h
  have e1 : (((c.toNat : Int)).toNat.toUInt8) = c := by simp
  rw [e1, show (⟨#[9, 10, 11, 12, 13, 32]⟩ : ByteArray).data.toList = [9, 10, 11, 12, 13, 32] from rfl] at h
  have B := hid (Rc.blank_ix c)
  have H := hid h
  clear h e1
  generalize Lib.indexByte [9, 10, 11, 12, 13, 32] c = x at *
  go_enter Tryd.func31, Tryd.ntmps31
  go_wp2_with fail
  refine H.out.mono ?_
  rintro e w1 ⟨rfl, hw⟩
  have hw := hw.symm
  subst hw
  go_wp2_with fail
  go_ret
  exact ⟨by rw [← B.out]; rfl, rfl⟩

/-- The places of the words from p on. -/
inductive Rc.WP (l : Ch.L8) : Nat → List (Nat × Nat) → Prop
  | done (p : Nat) : l.length ≤ p → Rc.WP l p []
  | skip (p : Nat) (r : List (Nat × Nat)) : p < l.length → Ch.bl (l.getD p 0) = true → Rc.WP l (p + 1) r → Rc.WP l p r
  | word (p q : Nat) (r : List (Nat × Nat)) : p < q → q ≤ l.length → (∀ j, p ≤ j → j < q → Ch.bl (l.getD j 0) = false) → (q < l.length → Ch.bl (l.getD q 0) = true) → Rc.WP l (q + 1) r → Rc.WP l p ((p, q) :: r)
theorem Rc.wp_ex (l : Ch.L8) : ∀ (n p : Nat), l.length - p ≤ n → ∃ ps, Rc.WP l p ps := by
  intro n
  induction n with
  | zero => intro p h; exact ⟨[], .done p (by omega)⟩
  | succ n ih =>
    intro p h
    by_cases hp : l.length ≤ p
    · exact ⟨[], .done p hp⟩
    · have hp : p < l.length := by omega
      have hle := Ch.tw_le (l := l) (k := p) (by omega)
      have hin := fun j a b => (Ch.tw_in (l := l) (k := p) (j := j) a b).2
      have hend := Ch.tw_end (l := l) (k := p)
      generalize ((l.drop p).takeWhile Ch.nb).length = T at *
      by_cases h0 : T = 0
      · subst h0
        obtain ⟨r, hr⟩ := ih (p + 1) (by omega)
        exact ⟨r, .skip p r hp (hend (by omega)) hr⟩
      · obtain ⟨r, hr⟩ := ih (p + T + 1) (by omega)
        exact ⟨_, .word p (p + T) r (by omega) hle hin hend hr⟩

set_option maxRecDepth 100000 in
set_option maxHeartbeats 4000000 in
theorem words1_feeds (s : ByteArray) (b1 : Nat) (ps : List (Nat × Nat)) (Z : Nat → Prop) (w : World) (z1 : Z b1) (c1 : w.cell? ⟨b1, 0, none⟩ = some (.string s)) (hs : s.size ≤ 140737488355400) (hp : Rc.WP s.data.toList 0 ps) :
    Fd 30 #[.pointer (some ⟨b1, 0, none⟩)] (Rc.fr ps) (Rc.up ps) ps.length Z w := fun l J Jx W hW hJ hY hJ0 => by
  have d1 := hW.cell z1 c1
  have sl := Ch.size_len s
  have hsi : (s.size : Int) ≤ 140737488355400 := by omega
  have BA : Hid (∀ j (h : j < s.size), ((s[j]'h).toNat : Int) = ((s.data.toList.getD j 0).toNat : Int)) := fun j h => by rw [Ch.byte_at s j h]
  refine callsIn_of_wp Tryd.func30 rfl trivial ?_ rfl
  simp only [Tryd.ntmps30, List.size_toArray, List.length_cons, List.length_nil, Nat.reduceAdd, Nat.reduceSub, Array.replicate_succ, Array.replicate_zero, List.push_toArray, List.append_toArray, List.nil_append, List.cons_append]
  gi_wp2
  gi_loopw [3] (fun a wr => ∃ k p : Nat, a = .int .i64 (p : Int) ∧ p ≤ s.size + 1 ∧ Rc.WP s.data.toList p (ps.drop k) ∧ k ≤ ps.length ∧ J k wr ∧ Kz Z W wr)
    (fun a _ => s.size + 1 - (intOf a).toNat)
  case atStart => exact ⟨0, 0, rfl, Nat.zero_le _, hp, Nat.zero_le _, hJ0, Kz.refl _ _⟩
  case round =>
    obtain ⟨k, p, rfl, hpl, hP, hkl, hJs, hK⟩ := hrel
    have e1 := hK.cell z1 d1
    generalize hD : ps.drop k = D at hP
    have pb : (p : Int) ≤ 140737488355401 := by omega
    cases hP with
    | done p hd =>
      have kN : k = ps.length := by
        have := congrArg List.length hD
        simp at this
        omega
      have hli : ¬ (p : Int) < (s.size : Int) := by omega
      gi_wp2
      go_end0
      exact ⟨⟨_, rfl⟩, .inl (by rw [← kN]; exact hJs)⟩
    | skip p r hp1 hb hr =>
      rw [sl] at hp1
      have hli : (p : Int) < (s.size : Int) := by omega
      have BB := BA.out p hp1
      have BL := rblank_yes (s.data.toList.getD p 0) wr
      rw [hb] at BL
      have BLH := hid BL
      clear BL
      have FIN := hid (And.intro hr (And.intro hJs hK))
      clear hr hJs hK hY hJ hW d1 c1 hp hJ0
      generalize ((s.data.toList.getD p 0).toNat : Int) = cc at *
      gi_wp2
      gi_loopw [4] (fun t wx => t = .int .i64 (p : Int) ∧ wx = wr) (fun _ _ => 0)
      case atStart => exact ⟨rfl, rfl⟩
      case round =>
        obtain ⟨rfl, hw⟩ := hrel
        have hw := hw.symm
        subst hw
        gi_wp2_with (refine ⟨trivial, rfl, ?_⟩; gi_at_call 31; refine (callsIn_wide.2 BLH.out).mono ?_; rintro e w1 ⟨rfl, hw⟩; have hw := hw.symm; subst hw)
        refine ⟨fun _ h => (by cases h), ?_⟩
        gi_wp2
        go_roundw
        case rel => exact ⟨k, p + 1, by simp, by omega, by rw [hD]; exact FIN.out.1, hkl, FIN.out.2.1, FIN.out.2.2⟩
        case measure => simp [intOf]; omega
    | word p q r hpq hq hin hend hr =>
      obtain ⟨kl, f1, u1, dr⟩ := Rc.at_cons hD
      rw [sl] at hq hend
      have hli : (p : Int) < (s.size : Int) := by omega
      have hqb : (q : Int) ≤ (s.size : Int) := by omega
      have hpq' : (p : Int) < (q : Int) := by omega
      obtain ⟨fn, tmps, assign, body, hy, hR⟩ := hY k wr kl hJs 0
      rw [f1, u1] at hy
      have HR := hid hR
      have FP := hid hr
      have FK := hid hK
      have FD := hid dr
      have IN := hid hin
      have EN := hid hend
      clear hr hJs hK hY hJ hW d1 c1 hp hJ0 hR hin hend hD f1 u1 dr
      gi_wp2
      gi_loopw [4] (fun t wx => ∃ j : Nat, t = .int .i64 (j : Int) ∧ p ≤ j ∧ j ≤ q ∧ wx = wr) (fun t _ => q - (intOf t).toNat)
      case atStart => exact ⟨p, rfl, Nat.le_refl _, by omega, rfl⟩
      case round =>
        obtain ⟨j, rfl, h1, h2, hw⟩ := hrel
        have hw := hw.symm
        subst hw
        by_cases jq : j < q
        · have jli : (j : Int) < (s.size : Int) := by omega
          have BB := BA.out j (by omega)
          have BL := rblank_yes (s.data.toList.getD j 0) wr
          rw [IN.out j h1 jq] at BL
          have BLH := hid BL
          clear BL
          generalize ((s.data.toList.getD j 0).toNat : Int) = cc at *
          gi_wp2_with (refine ⟨trivial, rfl, ?_⟩; gi_at_call 31; refine (callsIn_wide.2 BLH.out).mono ?_; rintro e w1 ⟨rfl, hw⟩; have hw := hw.symm; subst hw)
          go_roundw
          case rel => exact ⟨j + 1, by simp, by omega, by omega, by first | trivial | rfl⟩
          case measure => simp [intOf]; omega
        · obtain rfl : j = q := by omega
          by_cases je : j = s.size
          · subst je
            have jli : ¬ (s.size : Int) < (s.size : Int) := by omega
            gi_wp2
            refine ⟨trivial, ?_⟩
            gi_wp2
            refine ⟨rfl, HR.out.mono ?_⟩
            rintro e W3 (⟨rfl, hJ3, hk3⟩ | ⟨rfl, hJx3⟩)
            · gi_wp2
              go_roundw
              case rel => exact ⟨k + 1, s.size + 1, by simp, by omega, by rw [FD.out]; exact FP.out, by omega, hJ3, FK.out.trans hk3⟩
              case measure => simp [intOf]; omega
            · gi_wp2
              refine bodyPost_ret (results_none rfl _ _ _) rfl ?_
              exact ⟨⟨_, rfl⟩, .inr ⟨k + 1, by omega, hJx3⟩⟩
          · have jlt : j < s.size := by omega
            have jli : (j : Int) < (s.size : Int) := by omega
            have BB := BA.out j jlt
            have BL := rblank_yes (s.data.toList.getD j 0) wr
            rw [EN.out jlt] at BL
            have BLH := hid BL
            clear BL
            generalize ((s.data.toList.getD j 0).toNat : Int) = cc at *
            gi_wp2_with (refine ⟨trivial, rfl, ?_⟩; gi_at_call 31; refine (callsIn_wide.2 BLH.out).mono ?_; rintro e w1 ⟨rfl, hw⟩; have hw := hw.symm; subst hw)
            refine ⟨rfl, HR.out.mono ?_⟩
            rintro e W3 (⟨rfl, hJ3, hk3⟩ | ⟨rfl, hJx3⟩)
            · gi_wp2
              go_roundw
              case rel => exact ⟨k + 1, j + 1, by simp, by omega, by rw [FD.out]; exact FP.out, by omega, hJ3, FK.out.trans hk3⟩
              case measure => simp [intOf]; omega
            · gi_wp2
              refine bodyPost_ret (results_none rfl _ _ _) rfl ?_
              exact ⟨⟨_, rfl⟩, .inr ⟨k + 1, by omega, hJx3⟩⟩
end Go.Proofs.YtiggmgagcogakaaDoor
