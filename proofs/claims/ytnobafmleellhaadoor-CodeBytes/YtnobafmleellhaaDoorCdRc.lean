/-
  code's reader: mark, number.
-/
import Derived.Test.YtnobafmleellhaaDoorCdRb
namespace Go.Proofs.YtnobafmleellhaaDoor
open Go Go.RowKit Go.Deep Go.Shelf

namespace Cd
def mb : Nat → UInt8
  | 0 => 65
  | 1 => 66
  | 2 => 67
  | _ => 49
/-- Behind so many of the mark's bytes. -/
def mks (B : Ch.L8) (s : Rd) : Nat → Rd
  | 0 => s
  | k + 1 => (mk1 k (mb k) B (mks B s k)).2
theorem mark_mks (B : Ch.L8) (s : Rd) : (mark B s).2 = mks B s 4 := rfl
theorem mk1_snd (i : Nat) (c : UInt8) (B : Ch.L8) (s : Rd) : (mk1 i c B s).2 = if (next B s).1 = c then (next B s).2 else rf (next B s).2 i := rfl
theorem next_at {B : Ch.L8} {s : Rd} (h : (next B s).2.f.isSome = false) : s.f.isSome = false ∧ (next B s).2.a = s.a + 1 ∧ s.a + 1 ≤ B.length := by
  have e : (next B s).2 = (take 1 B s).2 := rfl
  rw [e] at h ⊢
  unfold take at h ⊢
  cases hf : s.f.isSome with
  | true => rw [if_pos hf] at h; rw [hf] at h; cases h
  | false =>
    rw [if_neg (by simp [hf])] at h ⊢
    split
    · rename_i c; rw [if_pos c] at h; cases h
    · rename_i c; exact ⟨rfl, rfl, by omega⟩
end Cd
set_option maxRecDepth 100000 in
set_option maxHeartbeats 8000000 in
theorem rmark_any {w : World} {rb : Nat} {q : Option Addr} {B : Ch.L8} {cap : Nat} (h : Cd.RT w rb q B cap ⟨0, none⟩) :
    Calls Tryd.prog 37 #[.pointer (some ⟨rb, 0, none⟩)] w fun e w' => e = .returned (.tuple #[]) ∧ Cd.RT w' rb q B cap (Cd.mark B ⟨0, none⟩).2 ∧ Re.Kp (fun b => b = rb) w w' := by
  have NX : Hid (∀ W s, Cd.RT W rb q B cap s → _) := fun W s hs => rnext_any hs
  have RF : Hid (∀ W s (p : Nat), Cd.RT W rb q B cap s → (s.f.isSome = false → p ≤ B.length) → _) := fun W s p hs hp => rrefuse_any hs p hp
  have S0 : Hid (Cd.RT w rb q B cap (Cd.mks B ⟨0, none⟩ 0) ∧ Re.Kp (fun b => b = rb) w w ∧ ((Cd.mks B ⟨0, none⟩ 0).f.isSome = false → (Cd.mks B ⟨0, none⟩ 0).a = 0)) := ⟨h, Re.Kp.refl _ _, fun _ => rfl⟩
  rw [Cd.mark_mks]
  have ST : Hid (∀ k, Cd.mks B ⟨0, none⟩ (k + 1) = if (Cd.next B (Cd.mks B ⟨0, none⟩ k)).1 = Cd.mb k then (Cd.next B (Cd.mks B ⟨0, none⟩ k)).2 else Cd.rf (Cd.next B (Cd.mks B ⟨0, none⟩ k)).2 k) := fun k => rfl
  generalize Cd.mks B ⟨0, none⟩ = M at *
  clear h
  go_enter Tryd.func37, Tryd.ntmps37
  go_wp2_with fail
  go_loopg [3] 4 (fun m iv wr => ∃ k : Nat, k + m = 4 ∧ iv = .int .i64 (k : Int) ∧ Hid (Cd.RT wr rb q B cap (M k) ∧ Re.Kp (fun b => b = rb) w wr ∧ ((M k).f.isSome = false → (M k).a = k)))
  case atStart => exact ⟨0, by omega, rfl, S0⟩
  case round =>
    obtain ⟨k, hk, rfl, J⟩ := hrel
    clear S0
    by_cases kl : k < 4
    · have kli : (k : Int) < 4 := by omega
      have U0 : Hid (Below wr.heap.size wr wr.drew) := Below.drew (Below.refl _ _)
      have N1 := hid (NX.out wr.drew (M k) (J.out.1.on U0.out))
      have E1 := ST.out k
      have AN : Hid ((Cd.next B (M k)).2.f.isSome = false → (Cd.next B (M k)).2.a = k + 1 ∧ k + 1 ≤ B.length) := fun hf => by
        have := Cd.next_at hf
        have e := J.out.2.2 this.1
        omega
      generalize Cd.next B (M k) = XS at *
      obtain ⟨x, s2⟩ := XS
      have sz := x.toNat_lt
      have hx : ((x.toNat : Nat) : Int) = ((Cd.mb k).toNat : Int) ↔ x = Cd.mb k := ⟨fun e => UInt8.toNat_inj.1 (by omega), fun e => by rw [e]⟩
      go_upto_region 3 with fail
      have KW := hid J.out.2.1
      have FY : Hid (x = Cd.mb k → ∀ W, Cd.RT W rb q B cap s2 → Re.Kp (fun b => b = rb) wr.drew W → Cd.RT W rb q B cap (M (k + 1)) ∧ Re.Kp (fun b => b = rb) w W ∧ ((M (k + 1)).f.isSome = false → (M (k + 1)).a = k + 1)) := fun hxc W h1 h2 => by
        rw [E1, if_pos hxc]
        exact ⟨h1, KW.out.trans ((Re.Kp.of U0.out).trans h2), fun hf => (AN.out hf).1⟩
      have FN : Hid (x ≠ Cd.mb k → ∀ W, Cd.RT W rb q B cap (Cd.rf s2 k) → Re.Kp (fun b => b = rb) wr.drew W → Cd.RT W rb q B cap (M (k + 1)) ∧ Re.Kp (fun b => b = rb) w W ∧ ((M (k + 1)).f.isSome = false → (M (k + 1)).a = k + 1)) := fun hxc W h1 h2 => by
        rw [E1, if_neg hxc]
        refine ⟨h1, KW.out.trans ((Re.Kp.of U0.out).trans h2), fun hf => ?_⟩
        unfold Cd.rf at hf
        split at hf
        · rename_i z; rw [z] at hf; cases hf
        · cases hf
      have AP : Hid (s2.f.isSome = false → k ≤ B.length) := fun hf => by have := (AN.out hf).2; omega
      clear E1 NX ST J AN
      have cs : (k = 0 ∨ k = 1 ∨ k = 2 ∨ k = 3) := by omega
      rcases cs with rfl | rfl | rfl | rfl
      · have hI : ∀ h, ((⟨#[65, 66, 67, 49]⟩ : ByteArray)[0]'h).toNat = 65 := fun _ => rfl
        by_cases hxc : x = Cd.mb 0
        · have hX : ((x.toNat : Nat) : Int) = 65 := hx.2 hxc
          have FZ := hid (FY.out hxc)
          clear hx FY FN hxc RF
          go_region_held3 (fun _ => True) (trivial) (first | (go_at_call 64; refine N1.out.mono ?_; rintro e w2 ⟨rfl, g1, g2⟩; have F2 := hid (FZ.out _ g1 g2); clear g1 g2 N1))
          all_goals
            go_wp2_with fail
            go_roundg 3
            case measure => omega
            case rel => exact ⟨1, by omega, by go_num, F2⟩
        · have hX : ¬ ((x.toNat : Nat) : Int) = 65 := fun e => hxc (hx.1 e)
          have FZ := hid (FN.out hxc)
          clear hx FY FN hxc
          go_region_held3 (fun _ => True) (trivial) (first | (go_at_call 64; refine N1.out.mono ?_; rintro e w2 ⟨rfl, g1, g2⟩; have G2 := hid (And.intro g1 g2); clear g1 g2 N1))
          all_goals
            go_wp2_with (go_at_call 41; refine (RF.out _ _ 0 G2.out.1 AP.out).mono ?_; rintro e w3 ⟨rfl, g1, g2⟩; have F2 := hid (FZ.out _ g1 (G2.out.2.trans g2)); clear g1 g2 RF)
            go_roundg 3
            case measure => omega
            case rel => exact ⟨1, by omega, by go_num, F2⟩
      · have hI : ∀ h, ((⟨#[65, 66, 67, 49]⟩ : ByteArray)[1]'h).toNat = 66 := fun _ => rfl
        by_cases hxc : x = Cd.mb 1
        · have hX : ((x.toNat : Nat) : Int) = 66 := hx.2 hxc
          have FZ := hid (FY.out hxc)
          clear hx FY FN hxc RF
          go_region_held3 (fun _ => True) (trivial) (first | (go_at_call 64; refine N1.out.mono ?_; rintro e w2 ⟨rfl, g1, g2⟩; have F2 := hid (FZ.out _ g1 g2); clear g1 g2 N1))
          all_goals
            go_wp2_with fail
            go_roundg 2
            case measure => omega
            case rel => exact ⟨2, by omega, by go_num, F2⟩
        · have hX : ¬ ((x.toNat : Nat) : Int) = 66 := fun e => hxc (hx.1 e)
          have FZ := hid (FN.out hxc)
          clear hx FY FN hxc
          go_region_held3 (fun _ => True) (trivial) (first | (go_at_call 64; refine N1.out.mono ?_; rintro e w2 ⟨rfl, g1, g2⟩; have G2 := hid (And.intro g1 g2); clear g1 g2 N1))
          all_goals
            go_wp2_with (go_at_call 41; refine (RF.out _ _ 1 G2.out.1 AP.out).mono ?_; rintro e w3 ⟨rfl, g1, g2⟩; have F2 := hid (FZ.out _ g1 (G2.out.2.trans g2)); clear g1 g2 RF)
            go_roundg 2
            case measure => omega
            case rel => exact ⟨2, by omega, by go_num, F2⟩
      · have hI : ∀ h, ((⟨#[65, 66, 67, 49]⟩ : ByteArray)[2]'h).toNat = 67 := fun _ => rfl
        by_cases hxc : x = Cd.mb 2
        · have hX : ((x.toNat : Nat) : Int) = 67 := hx.2 hxc
          have FZ := hid (FY.out hxc)
          clear hx FY FN hxc RF
          go_region_held3 (fun _ => True) (trivial) (first | (go_at_call 64; refine N1.out.mono ?_; rintro e w2 ⟨rfl, g1, g2⟩; have F2 := hid (FZ.out _ g1 g2); clear g1 g2 N1))
          all_goals
            go_wp2_with fail
            go_roundg 1
            case measure => omega
            case rel => exact ⟨3, by omega, by go_num, F2⟩
        · have hX : ¬ ((x.toNat : Nat) : Int) = 67 := fun e => hxc (hx.1 e)
          have FZ := hid (FN.out hxc)
          clear hx FY FN hxc
          go_region_held3 (fun _ => True) (trivial) (first | (go_at_call 64; refine N1.out.mono ?_; rintro e w2 ⟨rfl, g1, g2⟩; have G2 := hid (And.intro g1 g2); clear g1 g2 N1))
          all_goals
            go_wp2_with (go_at_call 41; refine (RF.out _ _ 2 G2.out.1 AP.out).mono ?_; rintro e w3 ⟨rfl, g1, g2⟩; have F2 := hid (FZ.out _ g1 (G2.out.2.trans g2)); clear g1 g2 RF)
            go_roundg 1
            case measure => omega
            case rel => exact ⟨3, by omega, by go_num, F2⟩
      · have hI : ∀ h, ((⟨#[65, 66, 67, 49]⟩ : ByteArray)[3]'h).toNat = 49 := fun _ => rfl
        by_cases hxc : x = Cd.mb 3
        · have hX : ((x.toNat : Nat) : Int) = 49 := hx.2 hxc
          have FZ := hid (FY.out hxc)
          clear hx FY FN hxc RF
          go_region_held3 (fun _ => True) (trivial) (first | (go_at_call 64; refine N1.out.mono ?_; rintro e w2 ⟨rfl, g1, g2⟩; have F2 := hid (FZ.out _ g1 g2); clear g1 g2 N1))
          all_goals
            go_wp2_with fail
            go_roundg 0
            case measure => omega
            case rel => exact ⟨4, by omega, by go_num, F2⟩
        · have hX : ¬ ((x.toNat : Nat) : Int) = 49 := fun e => hxc (hx.1 e)
          have FZ := hid (FN.out hxc)
          clear hx FY FN hxc
          go_region_held3 (fun _ => True) (trivial) (first | (go_at_call 64; refine N1.out.mono ?_; rintro e w2 ⟨rfl, g1, g2⟩; have G2 := hid (And.intro g1 g2); clear g1 g2 N1))
          all_goals
            go_wp2_with (go_at_call 41; refine (RF.out _ _ 3 G2.out.1 AP.out).mono ?_; rintro e w3 ⟨rfl, g1, g2⟩; have F2 := hid (FZ.out _ g1 (G2.out.2.trans g2)); clear g1 g2 RF)
            go_roundg 0
            case measure => omega
            case rel => exact ⟨4, by omega, by go_num, F2⟩
    · obtain rfl : k = 4 := by omega
      go_wp2_with fail
      go_end0
      exact ⟨rfl, J.out.1, J.out.2.1⟩
end Go.Proofs.YtnobafmleellhaaDoor
