/-
  Texts put together: QKe, QKf0.
-/
import Derived.Test.YtmihjiiagpkciaaDoorQKd
import Derived.Test.YtmihjiiagpkciaaDoorQDivOk
import Derived.Test.YtmihjiiagpkciaaDoorRA
import Derived.Test.YtmihjiiagpkciaaDoorRB
import Derived.Test.YtmihjiiagpkciaaDoorRE
import Derived.Test.YtmihjiiagpkciaaDoorRF
namespace Go.Proofs.YtmihjiiagpkciaaDoor
open Go Go.RowKit Go.Deep

namespace Qk
theorem tsize_trim {zs : List Int} (h : Nm.Limbs zs) : Nm.tsize (Nm.trim zs) = Nm.tsize zs := by
  apply Nat.le_antisymm
  · refine (Nm.tsize_le_iff h.trim _).2 ?_
    rw [Nm.val_trim]
    exact (Nm.tsize_le_iff h _).1 (Nat.le_refl _)
  · refine (Nm.tsize_le_iff h _).2 ?_
    rw [← Nm.val_trim]
    exact (Nm.tsize_le_iff h.trim _).1 (Nat.le_refl _)
/-- An answer: a number, or nothing behind an error. -/
def Sy (E T : Int) (B : Nat) (r : Option Addr) (os : List Int) (w : World) : Prop := (E = 0 ∧ os.length ≤ 4097 ∧ Ans B w r os T) ∨ (E ≠ 0 ∧ r = none ∧ os = [])
theorem Sy.below {E T : Int} {B : Nat} {r : Option Addr} {os : List Int} {w w' : World} (h : Sy E T B r os w) (hb : Below w.heap.size w w') : Sy E T B r os w' := by
  rcases h with ⟨h1, h2, h3⟩ | h
  · exact .inl ⟨h1, h2, h3.below hb (Nat.le_refl _)⟩
  · exact .inr h
theorem Sy.len {E T : Int} {B : Nat} {r : Option Addr} {os : List Int} {w : World} (h : Sy E T B r os w) : os.length ≤ 4097 := by
  rcases h with ⟨_, h2, _⟩ | ⟨_, _, rfl⟩
  · exact h2
  · simp
theorem Sy.ls {E T : Int} {B : Nat} {r : Option Addr} {os : List Int} {w : World} (h : Sy E T B r os w) : Ls B w r os := by
  rcases h with ⟨_, _, h3⟩ | ⟨_, rfl, rfl⟩
  · exact ⟨h3.1, fun a ha h0 => ⟨(h3.2.2.2.2 a ha).1, (h3.2.2.2.2 a ha).2 h0⟩⟩
  · exact ⟨Lies.nil _ _, fun a ha => by cases ha⟩
theorem sy_alike {E T : Int} {B B' : Nat} {r s : Option Addr} {os us : List Int} {w : World} (h : Sy E T B r os w) (k : Sy E T B' s us w) :
    Calls Tryd.prog 9 #[.slice r (List.length os) (List.length os), .slice s (List.length us) (List.length us)] w fun e w' => e = .returned (.bool true) ∧ Below w.heap.size w w' := by
  rcases h with ⟨h1, h2, h3⟩ | ⟨h1, rfl, rfl⟩
  · rcases k with ⟨_, _, k3⟩ | ⟨k1, _, _⟩
    · exact alike_ans h3 k3 (by omega)
    · exact absurd h1 k1
  · rcases k with ⟨k1, _, _⟩ | ⟨_, rfl, rfl⟩
    · exact absurd k1 h1
    · exact alike_zero w
/-- A list and an error. -/
def SyC (E T : Int) (W : World) (e : Ending) (w' : World) : Prop := ∃ r os, e = .returned (.tuple #[.slice r (List.length os) (List.length os), .int .i64 E]) ∧ Hid (Sy E T W.heap.size r os w') ∧ Below W.heap.size W w'
theorem SyC.err {E T : Int} (h : E ≠ 0) {W w' : World} (hb : Below W.heap.size W w') : SyC E T W (.returned (.tuple #[.slice none 0 0, .int .i64 E])) w' := ⟨none, [], rfl, .inr ⟨h, rfl, rfl⟩, hb⟩
theorem SyC.of {big : Prop} {k T : Int} {W w' : World} {e : Ending} (h : SaysAll big k T W e w') : SyC (powE big k T) T W e w' := by
  obtain ⟨r, os, rfl, h, hb⟩ := h
  refine ⟨r, os, rfl, ?_, hb⟩
  rcases h.out with ⟨h1, h2, h3⟩ | h
  · exact .inl ⟨h1, by have := h3.small h2; omega, h3⟩
  · exact .inr h
section
variable (za zb : List Int)
theorem near_both (hz : Nm.Limbs za) (hy : Nm.Limbs zb) : ∃ E T, (∀ W p n cap q m c, Arg W p n cap za → Arg W q m c zb → Calls Tryd.prog 17 #[.slice p n cap, .slice q m c] W fun e w' => SyC E T W e w') ∧
    (∀ W p n cap q m c, Arg W p n cap (Nm.trim za) → Arg W q m c (Nm.trim zb) → Calls Tryd.prog 23 #[.slice p n cap, .slice q m c] W fun e w' => SyC E T W e w') := by
  by_cases h1 : 4096 < Nm.tsize za ∨ 4096 < Nm.tsize zb
  · refine ⟨2, 0, fun W p n cap q m c ha hb => (near_big p q n cap m c za zb W ha hb h1).mono ?_, fun W p n cap q m c ha hb => (rnear_big p q n cap m c _ _ W ha hb (by rw [tsize_trim hz, tsize_trim hy]; exact h1)).mono ?_⟩
    · rintro e w' ⟨rfl, rfl⟩
      exact SyC.err (by omega) (Below.refl _ _)
    · rintro e w' ⟨rfl, rfl⟩
      exact SyC.err (by omega) (Below.refl _ _)
  have t1 : Nm.tsize za ≤ 4096 := by omega
  have t2 : Nm.tsize zb ≤ 4096 := by omega
  by_cases h2 : Nm.tsize zb = 0
  · refine ⟨4, 0, fun W p n cap q m c ha hb => (near_zero p q n cap m c za zb W ha hb t1 h2).mono ?_, fun W p n cap q m c ha hb => (rnear_zero p q n cap m c _ _ W ha hb (by rw [tsize_trim hz]; exact t1) (by rw [tsize_trim hy]; exact h2)).mono ?_⟩
    · rintro e w' ⟨rfl, hb⟩
      exact SyC.err (by omega) hb
    · rintro e w' ⟨rfl, rfl⟩
      exact SyC.err (by omega) (Below.refl _ _)
  have va := (Nm.val_bd za hz).1
  have vb : 0 < Nm.val zb := by
    have h3 := Nm.tsize_zero_iff hy
    have h4 := (Nm.val_bd zb hy).1
    omega
  obtain ⟨k1, k2, k3, k4, k5, k6, k7, k8⟩ := split_facts va ((Nm.tsize_le_iff hz 4096).1 t1) vb
  have lt : nearI (Nm.val za) (Nm.val zb) ≤ Nm.pw 4096 := by
    rw [nearI]
    split <;> omega
  have room : ∀ {B : Nat} {w : World} {p : Option Addr} {os : List Int}, Ans B w p os (nearI (Nm.val za) (Nm.val zb)) → os.length ≤ 4097 := fun h => by
    have h5 := (Nm.tsize_le_iff h.2.1 4097).2 (by
      rw [h.2.2.2.1]
      have h3 := Nm.pw_succ 4096
      have h4 := Nm.pw_pos 4096
      rw [show (4096 + 1 : Nat) = 4097 from rfl] at h3
      generalize Nm.pw 4097 = x at *
      generalize Nm.pw 4096 = y at *
      omega)
    rw [h.2.2.1] at h5
    exact h5
  refine ⟨0, nearI (Nm.val za) (Nm.val zb), fun W p n cap q m c ha hb => (near_ok p q n cap m c za zb W ha hb t1 t2 (by omega)).mono ?_, fun W p n cap q m c ha hb => (rnear_ok p q n cap m c _ _ W ha hb (by rw [tsize_trim hz]; exact t1) (by rw [tsize_trim hy]; exact t2) (by rw [tsize_trim hy]; omega)).mono ?_⟩
  · rintro e w' ⟨r, os, rfl, A, hb⟩
    exact ⟨r, os, rfl, .inl ⟨rfl, room A, A⟩, hb⟩
  · rintro e w' ⟨r, os, rfl, A, hb⟩
    rw [Nm.val_trim, Nm.val_trim] at A
    exact ⟨r, os, rfl, .inl ⟨rfl, room A, A⟩, hb⟩
theorem pow_both (hz : Nm.Limbs za) (k : Int) (hk : k ≤ 9223372036854775807) : ∃ E T, (∀ W p n cap, Arg W p n cap za → Calls Tryd.prog 18 #[.slice p n cap, .int .i64 k] W fun e w' => SyC E T W e w') ∧
    (∀ W p n cap, Arg W p n cap (Nm.trim za) → Calls Tryd.prog 24 #[.slice p n cap, .int .i64 k] W fun e w' => SyC E T W e w') := by
  refine ⟨powE (4096 < Nm.tsize za) k (Nm.val za ^ k.toNat), Nm.val za ^ k.toNat, fun W p n cap ha => (pow_says p n cap za _ k W ha rfl hk).mono fun _ _ h => SyC.of h, fun W p n cap ha => (rpow_says p n cap _ _ k W ha (Nm.val_trim za) hk).mono fun e w' h => ?_⟩
  rw [tsize_trim hz] at h
  exact SyC.of h
theorem five_both (k : Int) (hk : k ≤ 9223372036854775807) : ∃ E T, (∀ W, Calls Tryd.prog 19 #[.int .i64 k] W fun e w' => SyC E T W e w') ∧ (∀ W, Calls Tryd.prog 25 #[.int .i64 k] W fun e w' => SyC E T W e w') :=
  ⟨_, _, fun W => (five_says k W hk).mono fun _ _ h => SyC.of h, fun W => (rfive_says k W hk).mono fun _ _ h => SyC.of h⟩
theorem ten_both (k : Int) (hk : k ≤ 9223372036854775807) : ∃ E T, (∀ W, Calls Tryd.prog 20 #[.int .i64 k] W fun e w' => SyC E T W e w') ∧ (∀ W, Calls Tryd.prog 26 #[.int .i64 k] W fun e w' => SyC E T W e w') :=
  ⟨_, _, fun W => (ten_says k W hk).mono fun _ _ h => SyC.of h, fun W => (rten_says k W hk).mono fun _ _ h => SyC.of h⟩
/-- Quotient and rest, each in its block. -/
def DvC (E Q R : Int) (W : World) (e : Ending) (w' : World) : Prop := ∃ r os s us, e = .returned (.tuple #[.slice r (List.length os) (List.length os), .slice s (List.length us) (List.length us), .int .i64 E]) ∧ Hid (Sy E Q W.heap.size r os w' ∧ Sy E R W.heap.size s us w') ∧ Hid (∀ a b, r = some a → s = some b → 0 < os.length → 0 < us.length → a.block < b.block) ∧ Below W.heap.size W w'
def DvR (E Q R : Int) (W : World) (e : Ending) (w' : World) : Prop := ∃ r os s us, e = .returned (.tuple #[.slice r (List.length os) (List.length os), .slice s (List.length us) (List.length us), .int .i64 E]) ∧ Hid (Sy E Q W.heap.size r os w' ∧ Sy E R W.heap.size s us w') ∧ Below W.heap.size W w'
theorem DvC.err {E Q R : Int} (h : E ≠ 0) {W w' : World} (hb : Below W.heap.size W w') : DvC E Q R W (.returned (.tuple #[.slice none 0 0, .slice none 0 0, .int .i64 E])) w' := ⟨none, [], none, [], rfl, ⟨.inr ⟨h, rfl, rfl⟩, .inr ⟨h, rfl, rfl⟩⟩, fun a b ha => (by cases ha), hb⟩
theorem DvR.err {E Q R : Int} (h : E ≠ 0) {W w' : World} (hb : Below W.heap.size W w') : DvR E Q R W (.returned (.tuple #[.slice none 0 0, .slice none 0 0, .int .i64 E])) w' := ⟨none, [], none, [], rfl, ⟨.inr ⟨h, rfl, rfl⟩, .inr ⟨h, rfl, rfl⟩⟩, hb⟩
theorem div_both (hz : Nm.Limbs za) (hy : Nm.Limbs zb) : ∃ E Q R, (∀ W p n cap q m c, Arg W p n cap za → Arg W q m c zb → Calls Tryd.prog 14 #[.slice p n cap, .slice q m c] W fun e w' => DvC E Q R W e w') ∧
    (∀ W p n cap q m c, Arg W p n cap (Nm.trim za) → Arg W q m c (Nm.trim zb) → Calls Tryd.prog 13 #[.slice p n cap, .slice q m c] W fun e w' => DvR E Q R W e w') := by
  by_cases h1 : 4096 < Nm.tsize za ∨ 4096 < Nm.tsize zb
  · refine ⟨2, 0, 0, fun W p n cap q m c ha hb => (divMod_big p q n cap m c za zb W ha hb h1).mono ?_, fun W p n cap q m c ha hb => (rdm_big p q n cap m c _ _ W ha hb (by rw [tsize_trim hz, tsize_trim hy]; exact h1)).mono ?_⟩
    · rintro e w' ⟨rfl, rfl⟩
      exact DvC.err (by omega) (Below.refl _ _)
    · rintro e w' ⟨rfl, rfl⟩
      exact DvR.err (by omega) (Below.refl _ _)
  have t1 : Nm.tsize za ≤ 4096 := by omega
  have t2 : Nm.tsize zb ≤ 4096 := by omega
  by_cases h2 : Nm.tsize zb = 0
  · refine ⟨4, 0, 0, fun W p n cap q m c ha hb => (divMod_zero p q n cap m c za zb W ha hb t1 h2).mono ?_, fun W p n cap q m c ha hb => (rdm_zero p q n cap m c _ _ W ha hb (by rw [tsize_trim hz]; exact t1) (by rw [tsize_trim hy]; exact h2)).mono ?_⟩
    · rintro e w' ⟨rfl, hb⟩
      exact DvC.err (by omega) hb
    · rintro e w' ⟨rfl, rfl⟩
      exact DvR.err (by omega) (Below.refl _ _)
  have va := (Nm.val_bd za hz).1
  have vb : 0 < Nm.val zb := by
    have h3 := Nm.tsize_zero_iff hy
    have h4 := (Nm.val_bd zb hy).1
    omega
  obtain ⟨k1, k2, k3, k4, k5, k6, k7, k8⟩ := split_facts va ((Nm.tsize_le_iff hz 4096).1 t1) vb
  refine ⟨0, Nm.val za / Nm.val zb, Nm.val za % Nm.val zb, fun W p n cap q m c ha hb => (divMod_okD p q n cap m c za zb W ha hb t1 t2 (by omega)).mono ?_, fun W p n cap q m c ha hb => (rdm_ok p q n cap m c _ _ W ha hb (by rw [tsize_trim hz]; exact t1) (by rw [tsize_trim hy]; exact t2) (by rw [tsize_trim hy]; omega)).mono ?_⟩
  · rintro e w' ⟨r, os, s, us, rfl, A, B, hb, hd⟩
    exact ⟨r, os, s, us, rfl, ⟨.inl ⟨rfl, by have := A.small k2; omega, A⟩, .inl ⟨rfl, by have := B.small k3; omega, B⟩⟩, hd, hb⟩
  · rintro e w' ⟨r, os, s, us, rfl, A, B, hb⟩
    rw [Nm.val_trim, Nm.val_trim] at A B
    exact ⟨r, os, s, us, rfl, ⟨.inl ⟨rfl, by have := A.small k2; omega, A⟩, .inl ⟨rfl, by have := B.small k3; omega, B⟩⟩, hb⟩
/-- A root, and whether it is one. -/
def RtC (E T : Int) (f : Bool) (W : World) (e : Ending) (w' : World) : Prop := ∃ r os, e = .returned (.tuple #[.slice r (List.length os) (List.length os), .bool f, .int .i64 E]) ∧ Hid (Sy E T W.heap.size r os w') ∧ Below W.heap.size W w'
theorem root_one {A R S : Int} (h : IsRoot A R) (k : 0 ≤ S ∧ S * S ≤ A ∧ A < (S + 1) * (S + 1)) : S = R := by
  obtain ⟨h1, h2, h3⟩ := h
  obtain ⟨k1, k2, k3⟩ := k
  rcases Int.lt_trichotomy S R with c | c | c
  · exfalso
    have := Int.mul_le_mul (show S + 1 ≤ R by omega) (show S + 1 ≤ R by omega) (by omega) h1
    omega
  · exact c
  · exfalso
    have := Int.mul_le_mul (show R + 1 ≤ S by omega) (show R + 1 ≤ S by omega) (by omega) k1
    omega
theorem root_both (hz : Nm.Limbs za) : ∃ E T f, (∀ W p n cap, Tab W → Arg W p n cap za → Calls Tryd.prog 22 #[.slice p n cap] W fun e w' => RtC E T f W e w') ∧
    (∀ W p n cap, Arg W p n cap (Nm.trim za) → Calls Tryd.prog 27 #[.slice p n cap] W fun e w' => RtC E T f W e w') := by
  by_cases h1 : 256 < Nm.tsize za
  · refine ⟨2, 0, false, fun W p n cap _ ha => (root_big p n cap za W ha h1).mono ?_, fun W p n cap ha => (rroot_big p n cap _ W ha (by rw [tsize_trim hz]; exact h1)).mono ?_⟩
    · rintro e w' ⟨rfl, rfl⟩
      exact ⟨none, [], rfl, .inr ⟨by omega, rfl, rfl⟩, Below.refl _ _⟩
    · rintro e w' ⟨rfl, rfl⟩
      exact ⟨none, [], rfl, .inr ⟨by omega, rfl, rfl⟩, Below.refl _ _⟩
  have t1 : Nm.tsize za ≤ 256 := by omega
  have t2 : Nm.tsize (Nm.trim za) ≤ 256 := by rw [tsize_trim hz]; exact t1
  have va := (Nm.tsize_le_iff hz 256).1 t1
  have room : ∀ {B : Nat} {w : World} {p : Option Addr} {os : List Int} {R : Int}, Ans B w p os R → IsRoot (Nm.val za) R → os.length ≤ 4097 := fun {B w p os R} h k => by
    have h5 := (Nm.tsize_le_iff h.2.1 256).2 (by
      rw [h.2.2.2.1]
      have h6 : R * 1 ≤ R * R ∨ R < 1 := by
        rcases Int.lt_or_le R 1 with c | c
        · exact .inr c
        · exact .inl (Int.mul_le_mul_of_nonneg_left c k.1)
      have := Nm.pw_pos 256
      have := k.2.1
      generalize Nm.pw 256 = x at *
      generalize R * R = y at *
      omega)
    rw [h.2.2.1] at h5
    omega
  by_cases hr : ∃ R, IsRoot (Nm.val za) R
  · obtain ⟨R, hR⟩ := hr
    refine ⟨0, R, decide (R * R = Nm.val za), fun W p n cap hT ha => (root_ok p n cap za _ W ha hT t1 rfl).mono ?_, fun W p n cap ha => (rroot_ok p n cap _ _ W ha t2 (Nm.val_trim za)).mono ?_⟩
    · rintro e w' ⟨r, os, S, rfl, A, hS, hb⟩
      obtain rfl := root_one hR hS.out
      exact ⟨r, os, rfl, .inl ⟨rfl, room A hR, A⟩, hb⟩
    · rintro e w' ⟨r, os, S, rfl, A, hS, hb⟩
      obtain rfl := root_one hR hS.out
      exact ⟨r, os, rfl, .inl ⟨rfl, room A hR, A⟩, hb⟩
  · refine ⟨0, 0, false, fun W p n cap hT ha => (root_ok p n cap za _ W ha hT t1 rfl).mono ?_, fun W p n cap ha => (rroot_ok p n cap _ _ W ha t2 (Nm.val_trim za)).mono ?_⟩
    · rintro e w' ⟨r, os, S, rfl, A, hS, hb⟩
      exact absurd ⟨S, hS.out⟩ hr
    · rintro e w' ⟨r, os, S, rfl, A, hS, hb⟩
      exact absurd ⟨S, hS.out⟩ hr
theorem log_trim {b n E : Int} (hz : Nm.Limbs za) (h : LogIs (Nm.trim za) b n E) : LogIs za b n E := by
  cases h with
  | big h => exact .big (by rw [tsize_trim hz] at h; exact h)
  | zero h => exact .zero (by rw [tsize_trim hz] at h; exact h)
  | arg h1 h2 h3 => exact .arg (by rw [tsize_trim hz] at h1; exact h1) (by rw [tsize_trim hz] at h2; exact h2) h3
  | ok m h1 h2 h3 h4 => exact .ok m (by rw [tsize_trim hz] at h1; exact h1) (by rw [tsize_trim hz] at h2; exact h2) h3 (by rw [Nm.val_trim] at h4; exact h4)
theorem log_both (hz : Nm.Limbs za) (b : Int) (hb : b < 18446744073709551616) : ∃ x E, (∀ W p n cap, Arg W p n cap za → Calls Tryd.prog 21 #[.slice p n cap, .int .u64 b] W fun e w' => e = .returned (.tuple #[.int .i64 x, .int .i64 E]) ∧ Below W.heap.size W w') ∧
    (∀ W p n cap, Arg W p n cap (Nm.trim za) → Calls Tryd.prog 28 #[.slice p n cap, .int .u64 b] W fun e w' => e = .returned (.tuple #[.int .i64 x, .int .i64 E]) ∧ Below W.heap.size W w') := by
  by_cases h : ∃ x E, LogIs za b x E
  · obtain ⟨x, E, h⟩ := h
    refine ⟨x, E, fun W p n cap ha => (log_says p n cap za b W ha hb).mono ?_, fun W p n cap ha => (rlog_says p n cap _ b W ha hb).mono ?_⟩
    · rintro e w' ⟨y, F, rfl, k, d⟩
      obtain ⟨rfl, rfl⟩ := h.one k
      exact ⟨rfl, d⟩
    · rintro e w' ⟨y, F, rfl, k, d⟩
      obtain ⟨rfl, rfl⟩ := h.one (log_trim za hz k)
      exact ⟨rfl, d⟩
  · refine ⟨0, 0, fun W p n cap ha => (log_says p n cap za b W ha hb).mono ?_, fun W p n cap ha => (rlog_says p n cap _ b W ha hb).mono ?_⟩
    · rintro e w' ⟨y, F, rfl, k, d⟩
      exact absurd ⟨_, _, k⟩ h
    · rintro e w' ⟨y, F, rfl, k, d⟩
      exact absurd ⟨_, _, log_trim za hz k⟩ h
end
/-- A list of one's own, between two blocks. -/
structure Gq (lo hi : Nat) (W : World) (r : Option Addr) (os : List Int) : Prop where
  len : os.length ≤ 4097
  ls : Ls lo W r os
  hi : ∀ a, r = some a → 0 < os.length → a.block < hi
theorem Gq.on {lo hi : Nat} {W W' : World} {r : Option Addr} {os : List Int} (h : Gq lo hi W r os) (hB : Below W.heap.size W W') : Gq lo hi W' r os := ⟨h.len, h.ls.on hB, h.hi⟩
theorem Gq.ke {lo hi : Nat} {W : World} {r : Option Addr} {os : List Int} (h : Gq lo hi W r os) {b : Nat} (hb : (Ke.mk r os.length).blk = some b) : lo ≤ b ∧ b < hi := by
  obtain ⟨n0, a, ha, rfl⟩ := Ke.of_blk hb
  exact ⟨(h.ls.2 a ha n0).1, h.hi a ha n0⟩
theorem Sy.gq {E T : Int} {B : Nat} {r : Option Addr} {os : List Int} {w : World} (h : Sy E T B r os w) : Gq B w.heap.size w r os := ⟨h.len, h.ls, fun a ha h0 => h.ls.1.lt h0 a ha⟩
theorem Gq.up {lo hi hi' : Nat} {W : World} {r : Option Addr} {os : List Int} (h : Gq lo hi W r os) (q : hi ≤ hi') : Gq lo hi' W r os := ⟨h.len, h.ls, fun a ha h0 => Nat.lt_of_lt_of_le (h.hi a ha h0) q⟩
theorem cell_onQ {w w' : World} {a : Addr} {v : Value} (h : w.cell? a = some v) (hB : Below w.heap.size w w') : w'.cell? a = some v := by rw [hB.cell (cell_lt h)]; exact h
/-- The lists of one round of calls, in the order of their blocks. -/
structure Seven (B g : Nat) (W : World) (L : List Ke) : Prop where
  len : L.length = 7
  row : Bx W g 24 ((L.map (fun e => Value.slice e.p e.n e.n)).toArray)
  new : ∀ e ∈ L, (∃ zs, zs.length = e.n ∧ Ls B W e.p zs) ∧ e.n ≤ 4097
  apart : Apart L
  lo : B ≤ g
  far : ∀ e ∈ L, ∀ b, e.blk = some b → b < g
theorem Seven.on {B g : Nat} {W W' : World} {L : List Ke} (h : Seven B g W L) (hB : Below W.heap.size W W') : Seven B g W' L :=
  ⟨h.len, h.row.on hB, fun e he => by
    obtain ⟨⟨zs, z1, z2⟩, z3⟩ := h.new e he
    exact ⟨⟨zs, z1, z2.on hB⟩, z3⟩, h.apart, h.lo, h.far⟩
theorem pw7 {R : Ke → Ke → Prop} {a b c d e f g : Ke} (h1 : R a b) (h2 : R a c) (h3 : R a d) (h4 : R a e) (h5 : R a f) (h6 : R a g) (k2 : R b c) (k3 : R b d) (k4 : R b e) (k5 : R b f) (k6 : R b g) (l3 : R c d) (l4 : R c e) (l5 : R c f) (l6 : R c g) (m4 : R d e) (m5 : R d f) (m6 : R d g) (n5 : R e f) (n6 : R e g) (o6 : R f g) : [a, b, c, d, e, f, g].Pairwise R := by
  simp [List.pairwise_cons, *]
theorem seven {B : Nat} {W : World} {s0 s1 s2 s3 s4 s5 s6 : Nat} {r1 r2 r3 r4 r5 r6 r7 : Option Addr} {o1 o2 o3 o4 o5 o6 o7 : List Int}
    (g1 : Gq s0 s1 W r1 o1) (g2 : Gq s0 s1 W r2 o2) (hd : ∀ a b, r1 = some a → r2 = some b → 0 < o1.length → 0 < o2.length → a.block < b.block) (g3 : Gq s1 s2 W r3 o3) (g4 : Gq s2 s3 W r4 o4) (g5 : Gq s3 s4 W r5 o5) (g6 : Gq s4 s5 W r6 o6) (g7 : Gq s5 s6 W r7 o7)
    (q0 : B ≤ s0) (q1 : s0 ≤ s1) (q2 : s1 ≤ s2) (q3 : s2 ≤ s3) (q4 : s3 ≤ s4) (q5 : s4 ≤ s5) (q6 : s5 ≤ s6) (q7 : s6 ≤ W.heap.size) :
    Seven B W.heap.size (W.alloc (.cells #[.slice r1 o1.length o1.length, .slice r2 o2.length o2.length, .slice r3 o3.length o3.length, .slice r4 o4.length o4.length, .slice r5 o5.length o5.length, .slice r6 o6.length o6.length, .slice r7 o7.length o7.length] 24)) [⟨r1, o1.length⟩, ⟨r2, o2.length⟩, ⟨r3, o3.length⟩, ⟨r4, o4.length⟩, ⟨r5, o5.length⟩, ⟨r6, o6.length⟩, ⟨r7, o7.length⟩] := by
  have b1 := alloc_b2 W (.cells #[.slice r1 o1.length o1.length, .slice r2 o2.length o2.length, .slice r3 o3.length o3.length, .slice r4 o4.length o4.length, .slice r5 o5.length o5.length, .slice r6 o6.length o6.length, .slice r7 o7.length o7.length] 24)
  have D : ∀ {lo hi lo' hi' : Nat} {r r' : Option Addr} {os os' : List Int}, Gq lo hi W r os → Gq lo' hi' W r' os' → hi ≤ lo' → ∀ b, (Ke.mk r os.length).blk = some b → (Ke.mk r' os'.length).blk ≠ some b := fun g g' h b hb hb' => by
    have := g.ke hb
    have := g'.ke hb'
    omega
  refine ⟨rfl, heap_alloc_new W _, fun e he => ?_, ?_, by omega, fun e he b hb => ?_⟩
  · simp only [List.mem_cons, List.not_mem_nil, or_false] at he
    rcases he with rfl | rfl | rfl | rfl | rfl | rfl | rfl
    · exact ⟨⟨o1, rfl, (g1.ls.on b1).low (by omega)⟩, g1.len⟩
    · exact ⟨⟨o2, rfl, (g2.ls.on b1).low (by omega)⟩, g2.len⟩
    · exact ⟨⟨o3, rfl, (g3.ls.on b1).low (by omega)⟩, g3.len⟩
    · exact ⟨⟨o4, rfl, (g4.ls.on b1).low (by omega)⟩, g4.len⟩
    · exact ⟨⟨o5, rfl, (g5.ls.on b1).low (by omega)⟩, g5.len⟩
    · exact ⟨⟨o6, rfl, (g6.ls.on b1).low (by omega)⟩, g6.len⟩
    · exact ⟨⟨o7, rfl, (g7.ls.on b1).low (by omega)⟩, g7.len⟩
  · refine pw7 (fun b hb hb' => ?_) (D g1 g3 (by omega)) (D g1 g4 (by omega)) (D g1 g5 (by omega)) (D g1 g6 (by omega)) (D g1 g7 (by omega)) (D g2 g3 (by omega)) (D g2 g4 (by omega)) (D g2 g5 (by omega)) (D g2 g6 (by omega)) (D g2 g7 (by omega)) (D g3 g4 (by omega)) (D g3 g5 (by omega)) (D g3 g6 (by omega)) (D g3 g7 (by omega)) (D g4 g5 (by omega)) (D g4 g6 (by omega)) (D g4 g7 (by omega)) (D g5 g6 (by omega)) (D g5 g7 (by omega)) (D g6 g7 (by omega))
    obtain ⟨n0, a, ha, e1⟩ := Ke.of_blk hb
    obtain ⟨m0, c, hc, e2⟩ := Ke.of_blk hb'
    have := hd a c ha hc n0 m0
    omega
  · simp only [List.mem_cons, List.not_mem_nil, or_false] at he
    rcases he with rfl | rfl | rfl | rfl | rfl | rfl | rfl
    · have := g1.ke hb; omega
    · have := g2.ke hb; omega
    · have := g3.ke hb; omega
    · have := g4.ke hb; omega
    · have := g5.ke hb; omega
    · have := g6.ke hb; omega
    · have := g7.ke hb; omega
end Qk
end Go.Proofs.YtmihjiiagpkciaaDoor

namespace Go.Proofs.YtmihjiiagpkciaaDoor
open Go Go.RowKit Go.Deep

theorem bel_onQ0 {a b c : World} (h : Below a.heap.size a b) (k : Below b.heap.size b c) : Below a.heap.size a c := h.trans (k.mono h.size)

namespace Qk
set_option maxRecDepth 100000 in
set_option maxHeartbeats 16000000 in
theorem asked_nil (p q r s : Option Addr) (n1 c1 n2 c2 n3 c3 n4 c4 : Nat) (za zb : List Int) (k : Int) (w : World) (ha : Arg w p n1 c1 za) (hb : Arg w q n2 c2 zb) (hc : Arg w r n3 c3 (Nm.trim za)) (hd : Arg w s n4 c4 (Nm.trim zb)) (hT : Tab w) (hk : k ≤ 9223372036854775807) (h4 : n4 = 0) :
    Calls Tryd.prog 8 #[.slice p n1 c1, .slice q n2 c2, .int .i64 k, .slice r n3 c3, .slice s n4 c4] w fun e w' => ∃ g L, e = .returned (.tuple #[.slice (some ⟨g, 0, none⟩) 7 7, .bool true]) ∧ Seven w.heap.size g w' L ∧ Below w.heap.size w w' := by
  obtain ⟨Ed, Tq, Tr, k1, l1⟩ := div_both za zb ha.2.2.2.2 hb.2.2.2.2
  obtain ⟨En, Tn, k2, l2⟩ := near_both za zb ha.2.2.2.2 hb.2.2.2.2
  obtain ⟨Ep, Tp, k3, l3⟩ := pow_both za ha.2.2.2.2 k hk
  obtain ⟨Ev, Tv, k4, l4⟩ := five_both k hk
  obtain ⟨Et, Tt, k5, l5⟩ := ten_both k hk
  obtain ⟨Er, To, fo, k6, l6⟩ := root_both za ha.2.2.2.2
  subst h4
  obtain ⟨xl, El, k7, l7⟩ := log_both za ha.2.2.2.2 2 (by omega)
  have K1 := hid k1
  have L1 := hid l1
  have K2 := hid k2
  have L2 := hid l2
  have K3 := hid k3
  have L3 := hid l3
  have K4 := hid k4
  have L4 := hid l4
  have K5 := hid k5
  have L5 := hid l5
  have K6 := hid k6
  have L6 := hid l6
  have K7 := hid k7
  have L7 := hid l7
  have A0 := hid ha
  have B0 := hid hb
  have C0 := hid hc
  have D0 := hid hd
  have T0 := hid hT
  clear k1 k2 k3 k4 k5 k6 k7 l1 l2 l3 l4 l5 l6 l7 ha hb hc hd hT hk
  go_enter Tryd.func8, Tryd.ntmps8
  go_wp2_with fail
  refine (K1.out _ _ _ _ _ _ _ A0.out B0.out).mono ?_
  rintro e w1 ⟨r1, o1, r2, o2, rfl, y, HDD, B9⟩
  have N_ := hid (A0.out.below B9 (Nat.le_refl _))
  clear A0
  have A0 := N_
  clear N_
  have N_ := hid (B0.out.below B9 (Nat.le_refl _))
  clear B0
  have B0 := N_
  clear N_
  have N_ := hid (C0.out.below B9 (Nat.le_refl _))
  clear C0
  have C0 := N_
  clear N_
  have N_ := hid (D0.out.below B9 (Nat.le_refl _))
  clear D0
  have D0 := N_
  clear N_
  have N_ := hid (T0.out.below B9)
  clear T0
  have T0 := N_
  clear N_
  have U := hid B9
  have S1 := hid y.out.1
  have S2 := hid y.out.2
  have G1 := hid y.out.1.gq
  have G2 := hid y.out.2.gq
  have Z1 := hid B9.size
  clear B9 y K1
  go_wp2_with fail
  refine (K2.out _ _ _ _ _ _ _ A0.out B0.out).mono ?_
  rintro e w2 ⟨r3, o3, rfl, y, B9⟩
  have N_ := hid (A0.out.below B9 (Nat.le_refl _))
  clear A0
  have A0 := N_
  clear N_
  clear B0
  have N_ := hid (C0.out.below B9 (Nat.le_refl _))
  clear C0
  have C0 := N_
  clear N_
  have N_ := hid (D0.out.below B9 (Nat.le_refl _))
  clear D0
  have D0 := N_
  clear N_
  have N_ := hid (T0.out.below B9)
  clear T0
  have T0 := N_
  clear N_
  have N_ := hid (S1.out.below B9)
  clear S1
  have S1 := N_
  clear N_
  have N_ := hid (S2.out.below B9)
  clear S2
  have S2 := N_
  clear N_
  have N_ := hid (G1.out.on B9)
  clear G1
  have G1 := N_
  clear N_
  have N_ := hid (G2.out.on B9)
  clear G2
  have G2 := N_
  clear N_
  have N_ := hid (bel_onQ0 U.out B9)
  clear U
  have U := N_
  clear N_
  have S3 := hid y.out
  have G3 := hid y.out.gq
  have Z2 := hid B9.size
  clear B9 y K2
  go_wp2_with fail
  refine (K3.out _ _ _ _ A0.out).mono ?_
  rintro e w3 ⟨r4, o4, rfl, y, B9⟩
  have N_ := hid (A0.out.below B9 (Nat.le_refl _))
  clear A0
  have A0 := N_
  clear N_
  have N_ := hid (C0.out.below B9 (Nat.le_refl _))
  clear C0
  have C0 := N_
  clear N_
  have N_ := hid (D0.out.below B9 (Nat.le_refl _))
  clear D0
  have D0 := N_
  clear N_
  have N_ := hid (T0.out.below B9)
  clear T0
  have T0 := N_
  clear N_
  have N_ := hid (S1.out.below B9)
  clear S1
  have S1 := N_
  clear N_
  have N_ := hid (S2.out.below B9)
  clear S2
  have S2 := N_
  clear N_
  have N_ := hid (G1.out.on B9)
  clear G1
  have G1 := N_
  clear N_
  have N_ := hid (G2.out.on B9)
  clear G2
  have G2 := N_
  clear N_
  have N_ := hid (S3.out.below B9)
  clear S3
  have S3 := N_
  clear N_
  have N_ := hid (G3.out.on B9)
  clear G3
  have G3 := N_
  clear N_
  have N_ := hid (bel_onQ0 U.out B9)
  clear U
  have U := N_
  clear N_
  have S4 := hid y.out
  have G4 := hid y.out.gq
  have Z3 := hid B9.size
  clear B9 y K3
  go_wp2_with fail
  refine (K4.out _).mono ?_
  rintro e w4 ⟨r5, o5, rfl, y, B9⟩
  have N_ := hid (A0.out.below B9 (Nat.le_refl _))
  clear A0
  have A0 := N_
  clear N_
  have N_ := hid (C0.out.below B9 (Nat.le_refl _))
  clear C0
  have C0 := N_
  clear N_
  have N_ := hid (D0.out.below B9 (Nat.le_refl _))
  clear D0
  have D0 := N_
  clear N_
  have N_ := hid (T0.out.below B9)
  clear T0
  have T0 := N_
  clear N_
  have N_ := hid (S1.out.below B9)
  clear S1
  have S1 := N_
  clear N_
  have N_ := hid (S2.out.below B9)
  clear S2
  have S2 := N_
  clear N_
  have N_ := hid (G1.out.on B9)
  clear G1
  have G1 := N_
  clear N_
  have N_ := hid (G2.out.on B9)
  clear G2
  have G2 := N_
  clear N_
  have N_ := hid (S3.out.below B9)
  clear S3
  have S3 := N_
  clear N_
  have N_ := hid (G3.out.on B9)
  clear G3
  have G3 := N_
  clear N_
  have N_ := hid (S4.out.below B9)
  clear S4
  have S4 := N_
  clear N_
  have N_ := hid (G4.out.on B9)
  clear G4
  have G4 := N_
  clear N_
  have N_ := hid (bel_onQ0 U.out B9)
  clear U
  have U := N_
  clear N_
  have S5 := hid y.out
  have G5 := hid y.out.gq
  have Z4 := hid B9.size
  clear B9 y K4
  go_wp2_with fail
  refine (K5.out _).mono ?_
  rintro e w5 ⟨r6, o6, rfl, y, B9⟩
  have N_ := hid (A0.out.below B9 (Nat.le_refl _))
  clear A0
  have A0 := N_
  clear N_
  have N_ := hid (C0.out.below B9 (Nat.le_refl _))
  clear C0
  have C0 := N_
  clear N_
  have N_ := hid (D0.out.below B9 (Nat.le_refl _))
  clear D0
  have D0 := N_
  clear N_
  have N_ := hid (T0.out.below B9)
  clear T0
  have T0 := N_
  clear N_
  have N_ := hid (S1.out.below B9)
  clear S1
  have S1 := N_
  clear N_
  have N_ := hid (S2.out.below B9)
  clear S2
  have S2 := N_
  clear N_
  have N_ := hid (G1.out.on B9)
  clear G1
  have G1 := N_
  clear N_
  have N_ := hid (G2.out.on B9)
  clear G2
  have G2 := N_
  clear N_
  have N_ := hid (S3.out.below B9)
  clear S3
  have S3 := N_
  clear N_
  have N_ := hid (G3.out.on B9)
  clear G3
  have G3 := N_
  clear N_
  have N_ := hid (S4.out.below B9)
  clear S4
  have S4 := N_
  clear N_
  have N_ := hid (G4.out.on B9)
  clear G4
  have G4 := N_
  clear N_
  have N_ := hid (S5.out.below B9)
  clear S5
  have S5 := N_
  clear N_
  have N_ := hid (G5.out.on B9)
  clear G5
  have G5 := N_
  clear N_
  have N_ := hid (bel_onQ0 U.out B9)
  clear U
  have U := N_
  clear N_
  have S6 := hid y.out
  have G6 := hid y.out.gq
  have Z5 := hid B9.size
  clear B9 y K5
  go_wp2_with fail
  refine (K7.out _ _ _ _ A0.out).mono ?_
  rintro e w6 ⟨rfl, B9⟩
  have N_ := hid (A0.out.below B9 (Nat.le_refl _))
  clear A0
  have A0 := N_
  clear N_
  have N_ := hid (C0.out.below B9 (Nat.le_refl _))
  clear C0
  have C0 := N_
  clear N_
  have N_ := hid (D0.out.below B9 (Nat.le_refl _))
  clear D0
  have D0 := N_
  clear N_
  have N_ := hid (T0.out.below B9)
  clear T0
  have T0 := N_
  clear N_
  have N_ := hid (S1.out.below B9)
  clear S1
  have S1 := N_
  clear N_
  have N_ := hid (S2.out.below B9)
  clear S2
  have S2 := N_
  clear N_
  have N_ := hid (G1.out.on B9)
  clear G1
  have G1 := N_
  clear N_
  have N_ := hid (G2.out.on B9)
  clear G2
  have G2 := N_
  clear N_
  have N_ := hid (S3.out.below B9)
  clear S3
  have S3 := N_
  clear N_
  have N_ := hid (G3.out.on B9)
  clear G3
  have G3 := N_
  clear N_
  have N_ := hid (S4.out.below B9)
  clear S4
  have S4 := N_
  clear N_
  have N_ := hid (G4.out.on B9)
  clear G4
  have G4 := N_
  clear N_
  have N_ := hid (S5.out.below B9)
  clear S5
  have S5 := N_
  clear N_
  have N_ := hid (G5.out.on B9)
  clear G5
  have G5 := N_
  clear N_
  have N_ := hid (S6.out.below B9)
  clear S6
  have S6 := N_
  clear N_
  have N_ := hid (G6.out.on B9)
  clear G6
  have G6 := N_
  clear N_
  have N_ := hid (bel_onQ0 U.out B9)
  clear U
  have U := N_
  clear N_
  have Z6 := hid B9.size
  clear B9 K7
  go_wp2_with fail
  refine (K6.out _ _ _ _ T0.out A0.out).mono ?_
  rintro e w7 ⟨r7, o7, rfl, y, B9⟩
  clear A0
  have N_ := hid (C0.out.below B9 (Nat.le_refl _))
  clear C0
  have C0 := N_
  clear N_
  have N_ := hid (D0.out.below B9 (Nat.le_refl _))
  clear D0
  have D0 := N_
  clear N_
  clear T0
  have N_ := hid (S1.out.below B9)
  clear S1
  have S1 := N_
  clear N_
  have N_ := hid (S2.out.below B9)
  clear S2
  have S2 := N_
  clear N_
  have N_ := hid (G1.out.on B9)
  clear G1
  have G1 := N_
  clear N_
  have N_ := hid (G2.out.on B9)
  clear G2
  have G2 := N_
  clear N_
  have N_ := hid (S3.out.below B9)
  clear S3
  have S3 := N_
  clear N_
  have N_ := hid (G3.out.on B9)
  clear G3
  have G3 := N_
  clear N_
  have N_ := hid (S4.out.below B9)
  clear S4
  have S4 := N_
  clear N_
  have N_ := hid (G4.out.on B9)
  clear G4
  have G4 := N_
  clear N_
  have N_ := hid (S5.out.below B9)
  clear S5
  have S5 := N_
  clear N_
  have N_ := hid (G5.out.on B9)
  clear G5
  have G5 := N_
  clear N_
  have N_ := hid (S6.out.below B9)
  clear S6
  have S6 := N_
  clear N_
  have N_ := hid (G6.out.on B9)
  clear G6
  have G6 := N_
  clear N_
  have N_ := hid (bel_onQ0 U.out B9)
  clear U
  have U := N_
  clear N_
  have S7 := hid y.out
  have G7 := hid y.out.gq
  have Z7 := hid B9.size
  clear B9 y K6
  have SV := hid (seven (s0 := w.heap.size) G1.out G2.out HDD.out G3.out G4.out G5.out (G6.out.up Z6.out) (s5 := w6.heap.size) G7.out (Nat.le_refl _) Z1.out Z2.out Z3.out Z4.out (Nat.le_trans Z5.out Z6.out) Z7.out (Nat.le_refl _))
  have B9 := alloc_b2 w7 (.cells #[.slice r1 o1.length o1.length, .slice r2 o2.length o2.length, .slice r3 o3.length o3.length, .slice r4 o4.length o4.length, .slice r5 o5.length o5.length, .slice r6 o6.length o6.length, .slice r7 o7.length o7.length] 24)
  have N_ := hid (C0.out.below B9 (Nat.le_refl _))
  clear C0
  have C0 := N_
  clear N_
  have N_ := hid (D0.out.below B9 (Nat.le_refl _))
  clear D0
  have D0 := N_
  clear N_
  have N_ := hid (S1.out.below B9)
  clear S1
  have S1 := N_
  clear N_
  have N_ := hid (S2.out.below B9)
  clear S2
  have S2 := N_
  clear N_
  have N_ := hid (S3.out.below B9)
  clear S3
  have S3 := N_
  clear N_
  have N_ := hid (S4.out.below B9)
  clear S4
  have S4 := N_
  clear N_
  have N_ := hid (S5.out.below B9)
  clear S5
  have S5 := N_
  clear N_
  have N_ := hid (S6.out.below B9)
  clear S6
  have S6 := N_
  clear N_
  have N_ := hid (S7.out.below B9)
  clear S7
  have S7 := N_
  clear N_
  have N_ := hid (bel_onQ0 U.out B9)
  clear U
  have U := N_
  clear N_
  clear B9 G1 G2 G3 G4 G5 G6 G7 HDD Z1 Z2 Z3 Z4 Z5 Z6 Z7
  go_wp2_with fail
  refine (L1.out _ _ _ _ _ _ _ C0.out D0.out).mono ?_
  rintro e w8 ⟨t1, u1, t2, u2, rfl, y, B9⟩
  have N_ := hid (C0.out.below B9 (Nat.le_refl _))
  clear C0
  have C0 := N_
  clear N_
  have N_ := hid (D0.out.below B9 (Nat.le_refl _))
  clear D0
  have D0 := N_
  clear N_
  have N_ := hid (S1.out.below B9)
  clear S1
  have S1 := N_
  clear N_
  have N_ := hid (S2.out.below B9)
  clear S2
  have S2 := N_
  clear N_
  have N_ := hid (S3.out.below B9)
  clear S3
  have S3 := N_
  clear N_
  have N_ := hid (S4.out.below B9)
  clear S4
  have S4 := N_
  clear N_
  have N_ := hid (S5.out.below B9)
  clear S5
  have S5 := N_
  clear N_
  have N_ := hid (S6.out.below B9)
  clear S6
  have S6 := N_
  clear N_
  have N_ := hid (S7.out.below B9)
  clear S7
  have S7 := N_
  clear N_
  have N_ := hid (SV.out.on B9)
  clear SV
  have SV := N_
  clear N_
  have N_ := hid (bel_onQ0 U.out B9)
  clear U
  have U := N_
  clear N_
  have R1 := hid y.out.1
  have R2 := hid y.out.2
  clear B9 y L1
  go_wp2_with fail
  refine (L2.out _ _ _ _ _ _ _ C0.out D0.out).mono ?_
  rintro e w9 ⟨t3, u3, rfl, y, B9⟩
  have N_ := hid (C0.out.below B9 (Nat.le_refl _))
  clear C0
  have C0 := N_
  clear N_
  clear D0
  have N_ := hid (S1.out.below B9)
  clear S1
  have S1 := N_
  clear N_
  have N_ := hid (S2.out.below B9)
  clear S2
  have S2 := N_
  clear N_
  have N_ := hid (S3.out.below B9)
  clear S3
  have S3 := N_
  clear N_
  have N_ := hid (S4.out.below B9)
  clear S4
  have S4 := N_
  clear N_
  have N_ := hid (S5.out.below B9)
  clear S5
  have S5 := N_
  clear N_
  have N_ := hid (S6.out.below B9)
  clear S6
  have S6 := N_
  clear N_
  have N_ := hid (S7.out.below B9)
  clear S7
  have S7 := N_
  clear N_
  have N_ := hid (SV.out.on B9)
  clear SV
  have SV := N_
  clear N_
  have N_ := hid (R1.out.below B9)
  clear R1
  have R1 := N_
  clear N_
  have N_ := hid (R2.out.below B9)
  clear R2
  have R2 := N_
  clear N_
  have N_ := hid (bel_onQ0 U.out B9)
  clear U
  have U := N_
  clear N_
  have R3 := hid y.out
  clear B9 y L2
  go_wp2_with fail
  refine (L3.out _ _ _ _ C0.out).mono ?_
  rintro e w10 ⟨t4, u4, rfl, y, B9⟩
  have N_ := hid (C0.out.below B9 (Nat.le_refl _))
  clear C0
  have C0 := N_
  clear N_
  have N_ := hid (S1.out.below B9)
  clear S1
  have S1 := N_
  clear N_
  have N_ := hid (S2.out.below B9)
  clear S2
  have S2 := N_
  clear N_
  have N_ := hid (S3.out.below B9)
  clear S3
  have S3 := N_
  clear N_
  have N_ := hid (S4.out.below B9)
  clear S4
  have S4 := N_
  clear N_
  have N_ := hid (S5.out.below B9)
  clear S5
  have S5 := N_
  clear N_
  have N_ := hid (S6.out.below B9)
  clear S6
  have S6 := N_
  clear N_
  have N_ := hid (S7.out.below B9)
  clear S7
  have S7 := N_
  clear N_
  have N_ := hid (SV.out.on B9)
  clear SV
  have SV := N_
  clear N_
  have N_ := hid (R1.out.below B9)
  clear R1
  have R1 := N_
  clear N_
  have N_ := hid (R2.out.below B9)
  clear R2
  have R2 := N_
  clear N_
  have N_ := hid (R3.out.below B9)
  clear R3
  have R3 := N_
  clear N_
  have N_ := hid (bel_onQ0 U.out B9)
  clear U
  have U := N_
  clear N_
  have R4 := hid y.out
  clear B9 y L3
  go_wp2_with fail
  refine (L4.out _).mono ?_
  rintro e w11 ⟨t5, u5, rfl, y, B9⟩
  have N_ := hid (C0.out.below B9 (Nat.le_refl _))
  clear C0
  have C0 := N_
  clear N_
  have N_ := hid (S1.out.below B9)
  clear S1
  have S1 := N_
  clear N_
  have N_ := hid (S2.out.below B9)
  clear S2
  have S2 := N_
  clear N_
  have N_ := hid (S3.out.below B9)
  clear S3
  have S3 := N_
  clear N_
  have N_ := hid (S4.out.below B9)
  clear S4
  have S4 := N_
  clear N_
  have N_ := hid (S5.out.below B9)
  clear S5
  have S5 := N_
  clear N_
  have N_ := hid (S6.out.below B9)
  clear S6
  have S6 := N_
  clear N_
  have N_ := hid (S7.out.below B9)
  clear S7
  have S7 := N_
  clear N_
  have N_ := hid (SV.out.on B9)
  clear SV
  have SV := N_
  clear N_
  have N_ := hid (R1.out.below B9)
  clear R1
  have R1 := N_
  clear N_
  have N_ := hid (R2.out.below B9)
  clear R2
  have R2 := N_
  clear N_
  have N_ := hid (R3.out.below B9)
  clear R3
  have R3 := N_
  clear N_
  have N_ := hid (R4.out.below B9)
  clear R4
  have R4 := N_
  clear N_
  have N_ := hid (bel_onQ0 U.out B9)
  clear U
  have U := N_
  clear N_
  have R5 := hid y.out
  clear B9 y L4
  go_wp2_with fail
  refine (L5.out _).mono ?_
  rintro e w12 ⟨t6, u6, rfl, y, B9⟩
  have N_ := hid (C0.out.below B9 (Nat.le_refl _))
  clear C0
  have C0 := N_
  clear N_
  have N_ := hid (S1.out.below B9)
  clear S1
  have S1 := N_
  clear N_
  have N_ := hid (S2.out.below B9)
  clear S2
  have S2 := N_
  clear N_
  have N_ := hid (S3.out.below B9)
  clear S3
  have S3 := N_
  clear N_
  have N_ := hid (S4.out.below B9)
  clear S4
  have S4 := N_
  clear N_
  have N_ := hid (S5.out.below B9)
  clear S5
  have S5 := N_
  clear N_
  have N_ := hid (S6.out.below B9)
  clear S6
  have S6 := N_
  clear N_
  have N_ := hid (S7.out.below B9)
  clear S7
  have S7 := N_
  clear N_
  have N_ := hid (SV.out.on B9)
  clear SV
  have SV := N_
  clear N_
  have N_ := hid (R1.out.below B9)
  clear R1
  have R1 := N_
  clear N_
  have N_ := hid (R2.out.below B9)
  clear R2
  have R2 := N_
  clear N_
  have N_ := hid (R3.out.below B9)
  clear R3
  have R3 := N_
  clear N_
  have N_ := hid (R4.out.below B9)
  clear R4
  have R4 := N_
  clear N_
  have N_ := hid (R5.out.below B9)
  clear R5
  have R5 := N_
  clear N_
  have N_ := hid (bel_onQ0 U.out B9)
  clear U
  have U := N_
  clear N_
  have R6 := hid y.out
  clear B9 y L5
  go_wp2_with fail
  refine (L6.out _ _ _ _ C0.out).mono ?_
  rintro e w13 ⟨t7, u7, rfl, y, B9⟩
  have N_ := hid (C0.out.below B9 (Nat.le_refl _))
  clear C0
  have C0 := N_
  clear N_
  have N_ := hid (S1.out.below B9)
  clear S1
  have S1 := N_
  clear N_
  have N_ := hid (S2.out.below B9)
  clear S2
  have S2 := N_
  clear N_
  have N_ := hid (S3.out.below B9)
  clear S3
  have S3 := N_
  clear N_
  have N_ := hid (S4.out.below B9)
  clear S4
  have S4 := N_
  clear N_
  have N_ := hid (S5.out.below B9)
  clear S5
  have S5 := N_
  clear N_
  have N_ := hid (S6.out.below B9)
  clear S6
  have S6 := N_
  clear N_
  have N_ := hid (S7.out.below B9)
  clear S7
  have S7 := N_
  clear N_
  have N_ := hid (SV.out.on B9)
  clear SV
  have SV := N_
  clear N_
  have N_ := hid (R1.out.below B9)
  clear R1
  have R1 := N_
  clear N_
  have N_ := hid (R2.out.below B9)
  clear R2
  have R2 := N_
  clear N_
  have N_ := hid (R3.out.below B9)
  clear R3
  have R3 := N_
  clear N_
  have N_ := hid (R4.out.below B9)
  clear R4
  have R4 := N_
  clear N_
  have N_ := hid (R5.out.below B9)
  clear R5
  have R5 := N_
  clear N_
  have N_ := hid (R6.out.below B9)
  clear R6
  have R6 := N_
  clear N_
  have N_ := hid (bel_onQ0 U.out B9)
  clear U
  have U := N_
  clear N_
  have R7 := hid y.out
  clear B9 y L6
  go_wp2_with fail
  refine (L7.out _ _ _ _ C0.out).mono ?_
  rintro e w14 ⟨rfl, B9⟩
  clear C0
  have N_ := hid (S1.out.below B9)
  clear S1
  have S1 := N_
  clear N_
  have N_ := hid (S2.out.below B9)
  clear S2
  have S2 := N_
  clear N_
  have N_ := hid (S3.out.below B9)
  clear S3
  have S3 := N_
  clear N_
  have N_ := hid (S4.out.below B9)
  clear S4
  have S4 := N_
  clear N_
  have N_ := hid (S5.out.below B9)
  clear S5
  have S5 := N_
  clear N_
  have N_ := hid (S6.out.below B9)
  clear S6
  have S6 := N_
  clear N_
  have N_ := hid (S7.out.below B9)
  clear S7
  have S7 := N_
  clear N_
  have N_ := hid (SV.out.on B9)
  clear SV
  have SV := N_
  clear N_
  have N_ := hid (R1.out.below B9)
  clear R1
  have R1 := N_
  clear N_
  have N_ := hid (R2.out.below B9)
  clear R2
  have R2 := N_
  clear N_
  have N_ := hid (R3.out.below B9)
  clear R3
  have R3 := N_
  clear N_
  have N_ := hid (R4.out.below B9)
  clear R4
  have R4 := N_
  clear N_
  have N_ := hid (R5.out.below B9)
  clear R5
  have R5 := N_
  clear N_
  have N_ := hid (R6.out.below B9)
  clear R6
  have R6 := N_
  clear N_
  have N_ := hid (R7.out.below B9)
  clear R7
  have R7 := N_
  clear N_
  have N_ := hid (bel_onQ0 U.out B9)
  clear U
  have U := N_
  clear N_
  clear B9 L7
  go_wp2_with fail
  refine (sy_alike S1.out R1.out).mono ?_
  rintro e w15 ⟨rfl, B9⟩
  clear S1
  have N_ := hid (S2.out.below B9)
  clear S2
  have S2 := N_
  clear N_
  have N_ := hid (S3.out.below B9)
  clear S3
  have S3 := N_
  clear N_
  have N_ := hid (S4.out.below B9)
  clear S4
  have S4 := N_
  clear N_
  have N_ := hid (S5.out.below B9)
  clear S5
  have S5 := N_
  clear N_
  have N_ := hid (S6.out.below B9)
  clear S6
  have S6 := N_
  clear N_
  have N_ := hid (S7.out.below B9)
  clear S7
  have S7 := N_
  clear N_
  have N_ := hid (SV.out.on B9)
  clear SV
  have SV := N_
  clear N_
  clear R1
  have N_ := hid (R2.out.below B9)
  clear R2
  have R2 := N_
  clear N_
  have N_ := hid (R3.out.below B9)
  clear R3
  have R3 := N_
  clear N_
  have N_ := hid (R4.out.below B9)
  clear R4
  have R4 := N_
  clear N_
  have N_ := hid (R5.out.below B9)
  clear R5
  have R5 := N_
  clear N_
  have N_ := hid (R6.out.below B9)
  clear R6
  have R6 := N_
  clear N_
  have N_ := hid (R7.out.below B9)
  clear R7
  have R7 := N_
  clear N_
  have N_ := hid (bel_onQ0 U.out B9)
  clear U
  have U := N_
  clear N_
  clear B9
  go_wp2_with fail
  refine (sy_alike S2.out R2.out).mono ?_
  rintro e w16 ⟨rfl, B9⟩
  clear S2
  have N_ := hid (S3.out.below B9)
  clear S3
  have S3 := N_
  clear N_
  have N_ := hid (S4.out.below B9)
  clear S4
  have S4 := N_
  clear N_
  have N_ := hid (S5.out.below B9)
  clear S5
  have S5 := N_
  clear N_
  have N_ := hid (S6.out.below B9)
  clear S6
  have S6 := N_
  clear N_
  have N_ := hid (S7.out.below B9)
  clear S7
  have S7 := N_
  clear N_
  have N_ := hid (SV.out.on B9)
  clear SV
  have SV := N_
  clear N_
  clear R2
  have N_ := hid (R3.out.below B9)
  clear R3
  have R3 := N_
  clear N_
  have N_ := hid (R4.out.below B9)
  clear R4
  have R4 := N_
  clear N_
  have N_ := hid (R5.out.below B9)
  clear R5
  have R5 := N_
  clear N_
  have N_ := hid (R6.out.below B9)
  clear R6
  have R6 := N_
  clear N_
  have N_ := hid (R7.out.below B9)
  clear R7
  have R7 := N_
  clear N_
  have N_ := hid (bel_onQ0 U.out B9)
  clear U
  have U := N_
  clear N_
  clear B9
  go_wp2_with fail
  refine (sy_alike S3.out R3.out).mono ?_
  rintro e w17 ⟨rfl, B9⟩
  clear S3
  have N_ := hid (S4.out.below B9)
  clear S4
  have S4 := N_
  clear N_
  have N_ := hid (S5.out.below B9)
  clear S5
  have S5 := N_
  clear N_
  have N_ := hid (S6.out.below B9)
  clear S6
  have S6 := N_
  clear N_
  have N_ := hid (S7.out.below B9)
  clear S7
  have S7 := N_
  clear N_
  have N_ := hid (SV.out.on B9)
  clear SV
  have SV := N_
  clear N_
  clear R3
  have N_ := hid (R4.out.below B9)
  clear R4
  have R4 := N_
  clear N_
  have N_ := hid (R5.out.below B9)
  clear R5
  have R5 := N_
  clear N_
  have N_ := hid (R6.out.below B9)
  clear R6
  have R6 := N_
  clear N_
  have N_ := hid (R7.out.below B9)
  clear R7
  have R7 := N_
  clear N_
  have N_ := hid (bel_onQ0 U.out B9)
  clear U
  have U := N_
  clear N_
  clear B9
  go_wp2_with fail
  refine (sy_alike S4.out R4.out).mono ?_
  rintro e w18 ⟨rfl, B9⟩
  clear S4
  have N_ := hid (S5.out.below B9)
  clear S5
  have S5 := N_
  clear N_
  have N_ := hid (S6.out.below B9)
  clear S6
  have S6 := N_
  clear N_
  have N_ := hid (S7.out.below B9)
  clear S7
  have S7 := N_
  clear N_
  have N_ := hid (SV.out.on B9)
  clear SV
  have SV := N_
  clear N_
  clear R4
  have N_ := hid (R5.out.below B9)
  clear R5
  have R5 := N_
  clear N_
  have N_ := hid (R6.out.below B9)
  clear R6
  have R6 := N_
  clear N_
  have N_ := hid (R7.out.below B9)
  clear R7
  have R7 := N_
  clear N_
  have N_ := hid (bel_onQ0 U.out B9)
  clear U
  have U := N_
  clear N_
  clear B9
  go_wp2_with fail
  refine (sy_alike S5.out R5.out).mono ?_
  rintro e w19 ⟨rfl, B9⟩
  clear S5
  have N_ := hid (S6.out.below B9)
  clear S6
  have S6 := N_
  clear N_
  have N_ := hid (S7.out.below B9)
  clear S7
  have S7 := N_
  clear N_
  have N_ := hid (SV.out.on B9)
  clear SV
  have SV := N_
  clear N_
  clear R5
  have N_ := hid (R6.out.below B9)
  clear R6
  have R6 := N_
  clear N_
  have N_ := hid (R7.out.below B9)
  clear R7
  have R7 := N_
  clear N_
  have N_ := hid (bel_onQ0 U.out B9)
  clear U
  have U := N_
  clear N_
  clear B9
  go_wp2_with fail
  refine (sy_alike S6.out R6.out).mono ?_
  rintro e w20 ⟨rfl, B9⟩
  clear S6
  have N_ := hid (S7.out.below B9)
  clear S7
  have S7 := N_
  clear N_
  have N_ := hid (SV.out.on B9)
  clear SV
  have SV := N_
  clear N_
  clear R6
  have N_ := hid (R7.out.below B9)
  clear R7
  have R7 := N_
  clear N_
  have N_ := hid (bel_onQ0 U.out B9)
  clear U
  have U := N_
  clear N_
  clear B9
  go_wp2_with fail
  refine (sy_alike S7.out R7.out).mono ?_
  rintro e w21 ⟨rfl, B9⟩
  clear S7
  have N_ := hid (SV.out.on B9)
  clear SV
  have SV := N_
  clear N_
  clear R7
  have N_ := hid (bel_onQ0 U.out B9)
  clear U
  have U := N_
  clear N_
  clear B9
  go_wp2_with fail
  go_ret2
  exact ⟨_, _, rfl, SV.out, U.out⟩
end Qk
end Go.Proofs.YtmihjiiagpkciaaDoor
