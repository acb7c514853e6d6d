/-
  abacuslaw13: same (of one list twice), awake.
-/
import Derived.Test.YtaadooippelcfaaDoorDPrint
namespace Go.Proofs.YtaadooippelcfaaDoor
open Go Go.RowKit Go.Deep Go.Shelf

set_option maxRecDepth 100000 in
set_option maxHeartbeats 1000000 in
theorem same_any (a b : Option Addr) (ca cb : Nat) (ps : List Dr.Pc) (w : World) (h1 : LP w a ps) (h2 : LP w b ps) (hn : ps.length ≤ 2199023255552) :
    Calls Tryd.prog 11 #[.slice a ps.length ca, .slice b ps.length cb] w fun e w' => e = .returned (.bool true) ∧ Below w.heap.size w w' := by
  have H1 := hid h1
  have H2 := hid h2
  have HN := hid hn
  clear h1 h2 hn
  go_enter Tryd.func11, Tryd.ntmps11
  go_wp2_with fail
  go_loopg [5] ps.length (fun m iv wr => ∃ i : Nat, i + m = ps.length ∧ iv = .int .i64 (i : Int) ∧ Hid (Below w.heap.size w wr))
  case atStart => exact ⟨0, by omega, rfl, Below.refl _ _⟩
  case round =>
    obtain ⟨i, hi, rfl, I⟩ := hrel
    by_cases hl : i < ps.length
    · have hli : (i : Int) < (ps.length : Int) := by omega
      have ib : (i : Int) ≤ 2199023255552 := by have := HN.out; omega
      obtain ⟨g1, o1, rfl, hc⟩ := (H1.out.below I.out).at i hl
      obtain ⟨c0, c1, c2, c3, c4, c5, c6⟩ := hc
      obtain ⟨g2, o2, rfl, hc⟩ := (H2.out.below I.out).at i hl
      obtain ⟨d0, d1, d2, d3, d4, d5, d6⟩ := hc
      have I2 := hid (fun n => below_drewN I.out n)
      clear I
      generalize ps.getD i Dr.Pc.no = p at *
      have EQ : ∀ W, (Op.equalIn 10000 25 (.agg #[.string (strOfNums p.t), .int .u8 p.v, .int .i64 p.fl, .int .i64 p.wk, .int .i64 p.wd, .int .i64 p.pk, .int .i64 p.pr]) (.agg #[.string (strOfNums p.t), .int .u8 p.v, .int .i64 p.fl, .int .i64 p.wk, .int .i64 p.wd, .int .i64 p.pk, .int .i64 p.pr])).run Tryd.prog W = .ok true W := fun W => by rw [eq_piece]; simp
      go_wp2_with fail
      go_quiet (fail)
      go_wp2_with fail
      go_roundg (ps.length - (i + 1))
      case measure => omega
      case rel => exact ⟨i + 1, by omega, by go_num, I2.out _⟩
    · have hli : ¬ (i : Int) < (ps.length : Int) := by omega
      clear hl
      go_wp2_with fail
      go_ret
      exact ⟨rfl, I.out⟩

def pA : Dr.Pc := ⟨[97], 0, 0, 0, 0, 0, 0⟩
def pB : Dr.Pc := ⟨[], 102, 17, 1, 5, 1, 2⟩
theorem prs_aw : Dr.prs [97, 37, 45, 48, 53, 46, 50, 102] = ([pA, pB], 0, 0) := by rfl
theorem pA_ok : Dr.ok pA := by decide
theorem pB_ok : Dr.ok pB := by decide
theorem wrs_aw : Dr.wrs [pA, pB] = [97, 37, 45, 48, 53, 46, 50, 102] := by
  have e5 : Dr.wn 1 5 = [53] := Sc.dl_small (u := 5) (by omega)
  have e2 : Dr.wn 1 2 = [50] := Sc.dl_small (u := 2) (by omega)
  simp [Dr.wrs, Dr.wr, pA, pB, e5, e2, Dr.ms]
theorem pr_aw : Dr.prE [pA, pB] = 0 ∧ Dr.prT [pA, pB] = [97, 37, 45, 48, 53, 46, 50, 102] := by
  have := prE_ok (ps := [pA, pB]) (by intro p hp; simp at hp; rcases hp with rfl | rfl; exact pA_ok; exact pB_ok) (by rw [wrs_aw]; simp)
  rw [wrs_aw] at this
  exact this
theorem pAB_W : ∀ p ∈ [pA, pB], PcW p := by
  intro p hp
  simp at hp
  rcases hp with rfl | rfl
  · exact ⟨by intro x hx; simp [pA] at hx; omega, by decide, by decide⟩
  · exact ⟨by intro x hx; simp [pB] at hx, by decide, by decide⟩

set_option maxRecDepth 100000 in
set_option maxHeartbeats 1000000 in
theorem awake_any (w : World) (hT : T10 w.heap.size w) : Calls Tryd.prog 5 #[] w fun e w' => e = .returned (.bool true) ∧ Below w.heap.size w w' := by
  have PA : Hid (Calls Tryd.prog 10 #[.string ⟨#[97, 37, 45, 48, 53, 46, 50, 102]⟩] w fun r w' => ∃ mv, r = .returned (.tuple #[mv, .int .i64 0, .int .i64 0]) ∧ RowP w.heap.size w' mv [pA, pB] ∧ Below w.heap.size w w') := by
    have := parse_any ⟨#[97, 37, 45, 48, 53, 46, 50, 102]⟩ [97, 37, 45, 48, 53, 46, 50, 102] w rfl (by simp)
    unfold PaTold at this
    rw [prs_aw] at this
    exact this
  have HT := hid hT
  clear hT
  go_enter Tryd.func5, Tryd.ntmps5
  go_wp2_with fail
  refine PA.out.mono ?_
  rintro e w1 ⟨mv, rfl, rw1, b1⟩
  obtain ⟨a, cap, rfl, hc, lp⟩ := rw1.lp
  have L := hid lp
  have B1 := hid b1
  have T1 := hid ((HT.out.on b1).up b1.size)
  have PR : Hid (Calls Tryd.prog 13 #[.slice a 2 cap] w1 fun e w' => e = .returned (.tuple #[.string ⟨#[97, 37, 45, 48, 53, 46, 50, 102]⟩, .int .i64 0]) ∧ Below w1.heap.size w1 w') := by
    have := print_any a cap [pA, pB] w1 lp (by simp) pAB_W (by intro p hp; simp at hp; rcases hp with rfl | rfl <;> simp [pA, pB]) T1.out
    unfold PrTold at this
    rw [pr_aw.1, pr_aw.2] at this
    exact this
  obtain ⟨g, off, rfl, h0⟩ := lp.at 0 (by simp)
  obtain ⟨g', off', e', h1⟩ := lp.at 1 (by simp)
  simp only [Option.some.injEq, Addr.mk.injEq] at e'
  obtain ⟨rfl, rfl, -⟩ := e'
  obtain ⟨c0, -, -, -, -, -, -⟩ := h0
  obtain ⟨-, d1, d2, d3, d4, d5, d6⟩ := h1
  have c0 : w1.cell? ⟨g, off, none⟩ = some (.string ⟨#[97]⟩) := c0
  have d1 : w1.cell? ⟨g, off + 7 + 1, none⟩ = some (.int .u8 102) := d1
  have d2 : w1.cell? ⟨g, off + 7 + 2, none⟩ = some (.int .i64 17) := d2
  have d4 : w1.cell? ⟨g, off + 7 + 4, none⟩ = some (.int .i64 5) := d4
  have d6 : w1.cell? ⟨g, off + 7 + 6, none⟩ = some (.int .i64 2) := d6
  have hc2 : 2 ≤ cap := hc
  clear rw1 b1 lp d3 d5 hc
  go_wp2_with fail
  refine PR.out.mono ?_
  rintro e w2 ⟨rfl, b2⟩
  have B2 := hid (below_on B1.out b2)
  have WN := hid (wants_any (some ⟨g, off, none⟩) cap [pA, pB] w2 (L.out.below b2) (by simp))
  clear b2 PR c0 d1 d2 d4 d6
  go_wp2_with fail
  refine WN.out.mono ?_
  rintro e w3 ⟨rfl, b3⟩
  have B3 := hid (below_on B2.out b3)
  clear b3 WN
  rw [show Dr.wants [pA, pB] = 1 by decide]
  go_wp2_with fail
  go_ret
  exact ⟨rfl, B3.out⟩
end Go.Proofs.YtaadooippelcfaaDoor
