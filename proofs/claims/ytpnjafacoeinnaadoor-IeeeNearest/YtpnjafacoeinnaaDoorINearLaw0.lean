import Derived.Test.YtpnjafacoeinnaaDoorIHeld
/-
  IeeeNearest (made by mknlaw.py).
-/
namespace Go.Proofs.YtpnjafacoeinnaaDoor
open Go Go.RowKit Go.Deep

/-- A Tie, as Go has it. -/
def tieCells (neg : Bool) (pN pM pD : Option Addr) (nN cN nM cM nD cD : Nat) (e by' : Int) : Array Value := #[.bool neg, .slice pN nN cN, .slice pM nM cM, .slice pD nD cD, .int .i64 e, .int .u8 by']

theorem tie_awake (neg : Bool) (pN pM pD : Option Addr) (nN cN nM cM nD cD : Nat) (e by' : Int) (w : World) (hT : Tab w) :
    Hid (∀ g : Obj, g = .cells (tieCells neg pN pM pD nN cN nM cM nD cD e by') 45 → Calls Tryd.prog 7 #[] (w.alloc g) fun r w' => r = .returned (.bool true) ∧ Below w.heap.size w w' ∧ w.heap.size < w'.heap.size ∧
      w'.cell? ⟨w.heap.size, 0, none⟩ = some (.bool neg) ∧ w'.cell? ⟨w.heap.size, 1, none⟩ = some (.slice pN nN cN) ∧ w'.cell? ⟨w.heap.size, 2, none⟩ = some (.slice pM nM cM) ∧ w'.cell? ⟨w.heap.size, 3, none⟩ = some (.slice pD nD cD) ∧ w'.cell? ⟨w.heap.size, 4, none⟩ = some (.int .i64 e) ∧ w'.cell? ⟨w.heap.size, 5, none⟩ = some (.int .u8 by')) := by
  intro g hg
  subst hg
  have hb := alloc_below w (.cells (tieCells neg pN pM pD nN cN nM cM nD cD e by') 45)
  have hs : (w.alloc (.cells (tieCells neg pN pM pD nN cN nM cM nD cD e by') 45)).heap.size = w.heap.size + 1 := by simp
  have hg := heap_alloc_new w (.cells (tieCells neg pN pM pD nN cN nM cM nD cD e by') 45)
  refine (awake_any _ (hT.below hb)).mono ?_
  rintro r w1 ⟨rfl, hB⟩
  have hg1 : w1.heap[w.heap.size]? = some (.cells (tieCells neg pN pM pD nN cN nM cM nD cD e by') 45 (0, 0)) := by rw [hB.block _ (by omega)]; exact hg
  have h1 := hB.size
  refine ⟨rfl, hb.trans (hB.mono hb.size), by omega, ?_, ?_, ?_, ?_, ?_, ?_⟩ <;> simp only [World.cell?, hg1] <;> rfl

namespace Ie
theorem sg_ge (neg : Bool) (x : Int) (h0 : 0 ≤ x) (h1 : x ≤ 9218868437227405312) : decide (9223372036854775808 ≤ sg neg x) = neg ∧ sg neg x % 9223372036854775808 = x := by
  cases neg
  · exact ⟨by simp [sg]; omega, by simp [sg]; omega⟩
  · exact ⟨by simp [sg]; omega, by simp [sg]; omega⟩

/-- What Decode tells of a finite double above nothing. -/
theorem dec_fin (x : Int) (h0 : 0 < x) (h1 : x < 9218868437227405312) : dm x = man x ∧ de x = (ex x : Int) - 1074 := by
  have hf : fld x = x / 4503599627370496 := by simp only [fld]; omega
  by_cases hs : x < 4503599627370496
  · have c : cls x = 1 := by
      rw [cls, hf, if_pos (by omega), if_neg (by omega)]
    constructor
    · rw [dm, c, if_neg (by omega), if_pos (by omega), man, if_pos hs]; omega
    · rw [de, c, if_neg (by omega), if_pos rfl, ex]; omega
  · have c : cls x = 2 := by
      rw [cls, hf, if_neg (by omega), if_neg (by omega)]
    constructor
    · rw [dm, c, if_pos rfl, man, if_neg hs]
    · rw [de, c, if_pos rfl, ex, hf]; omega
theorem dec_zero : dm 0 = 0 ∧ de 0 = 0 := by decide
end Ie

theorem cmpI_comm_hi {V D M : Int} {s t : Nat} {x : Int} (h : V * 2 ^ t < M * D * 2 ^ s ∨ (V * 2 ^ t = M * D * 2 ^ s ∧ x % 2 = 0)) : cmpI (D * M * 2 ^ s) (V * 2 ^ t) = 1 ∨ (cmpI (D * M * 2 ^ s) (V * 2 ^ t) = 0 ∧ x % 2 = 0) := by
  rw [Int.mul_comm D M]
  rcases h with h | ⟨h, h'⟩
  · exact .inl (cmpI_gt h)
  · exact .inr ⟨cmpI_eq h.symm, h'⟩

theorem cmpI_comm_lo {V D M : Int} {s t : Nat} {x : Int} (h : M * D * 2 ^ s < V * 2 ^ t ∨ (M * D * 2 ^ s = V * 2 ^ t ∧ x % 2 = 0)) : cmpI (D * M * 2 ^ s) (V * 2 ^ t) = -1 ∨ (cmpI (D * M * 2 ^ s) (V * 2 ^ t) = 0 ∧ x % 2 = 0) := by
  rw [Int.mul_comm D M]
  rcases h with h | ⟨h, h'⟩
  · exact .inl (cmpI_lt h)
  · exact .inr ⟨cmpI_eq h, h'⟩

theorem split_nat (z : Int) : ∃ s t : Nat, (s : Int) - t = z ∧ (s = 0 ∨ t = 0) := ⟨z.toNat, (-z).toNat, by omega, by omega⟩

set_option maxRecDepth 100000 in
set_option maxHeartbeats 4000000 in
theorem nearLaw_out (neg : Bool) (pN pM pD : Option Addr) (nN cN nM cM nD cD : Nat) (zN zD : List Int) (e by' : Int) (w : World) (hN : Arg w pN nN cN zN) (hD : Arg w pD nD cD zD) (hT : Tab w) (hout : 60 < nN ∨ 60 < nD ∨ 9000 < e ∨ e < -9000 ∨ Nm.val zD = 0) :
    Calls Tryd.prog 6 #[.agg (tieCells neg pN pM pD nN cN nM cM nD cD e by')] w fun r w' => r = .returned (.bool true) ∧ Below w.heap.size w w'  := by
  have AW := tie_awake neg pN pM pD nN cN nM cM nD cD e by' w hT
  have bN : (nN : Int) ≤ 17592186044416 := by have := hN.2.1; have := hN.2.2.1; omega
  have bD : (nD : Int) ≤ 17592186044416 := by have := hD.2.1; have := hD.2.2.1; omega
  have BL : Hid (Nm.val zD = 0 → ∀ wx : World, Below w.heap.size w wx → Calls Tryd.prog 20 #[.slice pD nD cD] wx fun e w' => e = .returned (.int .i64 0) ∧ w' = wx) := by
    intro h0 wx hx
    have h := bitLen_any pD nD cD zD wx (hD.below hx (Nat.le_refl _))
    rw [blen, if_pos ((Nm.tsize_zero_iff hD.2.2.2.2).2 h0)] at h
    exact h
  clear hT hN hD
  by_cases g1 : 60 < nN
  · have l1 : (60 : Int) < (nN : Int) := by omega
    clear hout g1
    go_enter Tryd.func6, Tryd.ntmps6
    simp only [tieCells]
    go_wp2_with fail
    refine (AW.out _ rfl).mono ?_
    rintro e' w1 ⟨rfl, hB, hsz, c0, c1, -, c3, c4, -⟩
    have HB := hid hB
    have HZ := hid hsz
    clear hB hsz AW
    go_wp2_with fail
    go_ret
    exact ⟨rfl, HB.out⟩
  have l1 : ¬ (60 : Int) < (nN : Int) := by omega
  by_cases g2 : 60 < nD
  · have l2 : (60 : Int) < (nD : Int) := by omega
    clear hout g1 g2
    go_enter Tryd.func6, Tryd.ntmps6
    simp only [tieCells]
    go_wp2_with fail
    refine (AW.out _ rfl).mono ?_
    rintro e' w1 ⟨rfl, hB, hsz, c0, c1, -, c3, c4, -⟩
    have HB := hid hB
    have HZ := hid hsz
    clear hB hsz AW
    go_wp2_with fail
    go_ret
    exact ⟨rfl, HB.out⟩
  have l2 : ¬ (60 : Int) < (nD : Int) := by omega
  by_cases g3 : 9000 < e
  · clear hout g1 g2
    go_enter Tryd.func6, Tryd.ntmps6
    simp only [tieCells]
    go_wp2_with fail
    refine (AW.out _ rfl).mono ?_
    rintro e' w1 ⟨rfl, hB, hsz, c0, c1, -, c3, c4, -⟩
    have HB := hid hB
    have HZ := hid hsz
    clear hB hsz AW
    go_wp2_with fail
    go_ret
    exact ⟨rfl, HB.out⟩
  by_cases g4 : e < -9000
  · clear hout g1 g2
    go_enter Tryd.func6, Tryd.ntmps6
    simp only [tieCells]
    go_wp2_with fail
    refine (AW.out _ rfl).mono ?_
    rintro e' w1 ⟨rfl, hB, hsz, c0, c1, -, c3, c4, -⟩
    have HB := hid hB
    have HZ := hid hsz
    clear hB hsz AW
    go_wp2_with fail
    go_ret
    exact ⟨rfl, HB.out⟩
  have g5 : Nm.val zD = 0 := by omega
  have BL1 := hid (BL.out g5)
  clear hout g1 g2 g5 BL
  go_enter Tryd.func6, Tryd.ntmps6
  simp only [tieCells]
  go_wp2_with fail
  refine (AW.out _ rfl).mono ?_
  rintro e' w1 ⟨rfl, hB, hsz, c0, c1, -, c3, c4, -⟩
  have HB := hid hB
  have HZ := hid hsz
  clear hB hsz AW
  go_wp2_with fail
  refine (BL1.out _ HB.out).mono ?_
  rintro e' w2 ⟨rfl, rfl⟩
  go_wp2_with fail
  go_ret
  exact ⟨rfl, HB.out⟩
end Go.Proofs.YtpnjafacoeinnaaDoor
