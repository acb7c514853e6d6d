/-
  Texts put together: QLogIs, QLogSame.
-/
import Derived.Test.YthfechigdiefpaaQLog2
import Derived.Test.YthfechigdiefpaaQRLog
namespace Go.Proofs.Ythfechigdiefpaa
open Go.RowKit Go.Deep

/-- What is told of a logarithm: the number and the error. -/
inductive LogIs (zs : List Int) (b : Int) : Int → Int → Prop
  | big : 4096 < Nm.tsize zs → LogIs zs b 0 2
  | zero : Nm.tsize zs = 0 → LogIs zs b 0 4
  | arg : Nm.tsize zs ≤ 4096 → 0 < Nm.tsize zs → b < 2 → LogIs zs b 0 1
  | ok (n : Nat) : Nm.tsize zs ≤ 4096 → 0 < Nm.tsize zs → 2 ≤ b → Ln.IsLog (Nm.val zs) b n → LogIs zs b (n : Int) 0

theorem LogIs.one {zs : List Int} {b n e n' e' : Int} (h : LogIs zs b n e) (k : LogIs zs b n' e') : n = n' ∧ e = e' := by
  cases h <;> cases k <;> first | exact ⟨rfl, rfl⟩ | omega | skip
  rename_i m h1 h2 h3 h4 m' k1 k2 k3 k4
  exact ⟨by rw [Ln.unique h3 h4 k4], rfl⟩

/-- Both fit the results' type. -/
theorem LogIs.small {zs : List Int} {b n e : Int} (hl : Nm.Limbs zs) (h : LogIs zs b n e) : 0 ≤ n ∧ n ≤ 262143 := by
  cases h with
  | big _ => omega
  | zero _ => omega
  | arg _ _ _ => omega
  | ok m h1 h2 h3 h4 =>
    have := exp_small h3 h4.1 ((Nm.tsize_le_iff hl 4096).1 h1)
    omega

def LogSays (zs : List Int) (b : Int) (w : World) (e : Ending) (w' : World) : Prop := ∃ n E, e = .returned (.tuple #[.int .i64 n, .int .i64 E]) ∧ LogIs zs b n E ∧ Below w.heap.size w w'

theorem log_says (p : Option Addr) (m cap : Nat) (zs : List Int) (b : Int) (w : World) (ha : Arg w p m cap zs) (hb1 : b < 18446744073709551616) :
    Calls Try.prog 32 #[.slice p m cap, .int .u64 b] w fun e w' => LogSays zs b w e w' := by
  by_cases h1 : 4096 < Nm.tsize zs
  · refine (log_big p m cap zs b w ha h1).mono ?_
    rintro e w' ⟨rfl, rfl⟩
    exact ⟨_, _, rfl, .big h1, Below.refl _ _⟩
  by_cases h2 : Nm.tsize zs = 0
  · refine (log_zero p m cap zs b w ha h2).mono ?_
    rintro e w' ⟨rfl, rfl⟩
    exact ⟨_, _, rfl, .zero h2, Below.refl _ _⟩
  by_cases h3 : b < 2
  · refine (log_arg p m cap zs b w ha (by omega) (by omega) h3).mono ?_
    rintro e w' ⟨rfl, rfl⟩
    exact ⟨_, _, rfl, .arg (by omega) (by omega) h3, Below.refl _ _⟩
  · refine (log_ok p m cap zs _ b w ha rfl (by omega) (by omega) (by omega) hb1).mono ?_
    rintro e w' ⟨n, rfl, k, d⟩
    exact ⟨_, _, rfl, .ok n (by omega) (by omega) (by omega) k, d⟩

end Go.Proofs.Ythfechigdiefpaa

namespace Go.Proofs.Ythfechigdiefpaa
open Go.RowKit Go.Deep

theorem rlog_says (p : Option Addr) (m cap : Nat) (zs : List Int) (b : Int) (w : World) (ha : Arg w p m cap zs) (hb1 : b < 18446744073709551616) :
    Calls Try.prog 31 #[.slice p m cap, .int .u64 b] w fun e w' => LogSays zs b w e w' := by
  by_cases h1 : 4096 < Nm.tsize zs
  · refine (rlog_big p m cap zs b w ha h1).mono ?_
    rintro e w' ⟨rfl, rfl⟩
    exact ⟨_, _, rfl, .big h1, Below.refl _ _⟩
  by_cases h2 : Nm.tsize zs = 0
  · refine (rlog_zero p m cap zs b w ha h2).mono ?_
    rintro e w' ⟨rfl, rfl⟩
    exact ⟨_, _, rfl, .zero h2, Below.refl _ _⟩
  by_cases h3 : b < 2
  · refine (rlog_arg p m cap zs b w ha (by omega) (by omega) h3).mono ?_
    rintro e w' ⟨rfl, rfl⟩
    exact ⟨_, _, rfl, .arg (by omega) (by omega) h3, Below.refl _ _⟩
  · refine (rlog_ok p m cap zs _ b w ha rfl (by omega) (by omega) (by omega) hb1).mono ?_
    rintro e w' ⟨n, rfl, k, d⟩
    exact ⟨_, _, rfl, .ok n (by omega) (by omega) (by omega) k, d⟩
end Go.Proofs.Ythfechigdiefpaa
