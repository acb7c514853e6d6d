import Derived.Test.YtpnjafacoeinnabDoorIRoom
/-
  A Tie, boxed; what Decode tells of a finite double.
-/
namespace Go.Proofs.YtpnjafacoeinnabDoor
open Go Go.RowKit Go.Deep

/-- A Tie, as Go has it. -/
def tieCells (neg : Bool) (pN pM pD : Option Addr) (nN cN nM cM nD cD : Nat) (e by' : Int) : Array Value := #[.bool neg, .slice pN nN cN, .slice pM nM cM, .slice pD nD cD, .int .i64 e, .int .u8 by']

theorem tie_awake (neg : Bool) (pN pM pD : Option Addr) (nN cN nM cM nD cD : Nat) (e by' : Int) (w : World) (hT : Tab w) :
    Hid (∀ g : Obj, g = .cells (tieCells neg pN pM pD nN cN nM cM nD cD e by') 24 → Calls Tryd.prog 6 #[] (w.alloc g) fun r w' => r = .returned (.bool true) ∧ Below w.heap.size w w' ∧ w.heap.size < w'.heap.size ∧
      w'.cell? ⟨w.heap.size, 0, none⟩ = some (.bool neg) ∧ w'.cell? ⟨w.heap.size, 1, none⟩ = some (.slice pN nN cN) ∧ w'.cell? ⟨w.heap.size, 2, none⟩ = some (.slice pM nM cM) ∧ w'.cell? ⟨w.heap.size, 3, none⟩ = some (.slice pD nD cD) ∧ w'.cell? ⟨w.heap.size, 4, none⟩ = some (.int .i64 e) ∧ w'.cell? ⟨w.heap.size, 5, none⟩ = some (.int .u8 by')) := by
  intro g hg
  subst hg
  have hb := alloc_below w (.cells (tieCells neg pN pM pD nN cN nM cM nD cD e by') 24)
  have hs : (w.alloc (.cells (tieCells neg pN pM pD nN cN nM cM nD cD e by') 24)).heap.size = w.heap.size + 1 := by simp
  have hg := heap_alloc_new w (.cells (tieCells neg pN pM pD nN cN nM cM nD cD e by') 24)
  refine (awake_any _ (hT.below hb)).mono ?_
  rintro r w1 ⟨rfl, hB⟩
  have hg1 : w1.heap[w.heap.size]? = some (.cells (tieCells neg pN pM pD nN cN nM cM nD cD e by') 24 (0, 0)) := by rw [hB.block _ (by omega)]; exact hg
  have h1 := hB.size
  refine ⟨rfl, hb.trans (hB.mono hb.size), by omega, ?_, ?_, ?_, ?_, ?_, ?_⟩ <;> simp only [World.cell?, hg1] <;> rfl

namespace Ie
theorem sg_ge (neg : Bool) (x : Int) (h0 : 0 ≤ x) (h1 : x ≤ 9218868437227405312) : decide (9223372036854775808 ≤ sg neg x) = neg ∧ sg neg x % 9223372036854775808 = x := by
  cases neg
  · exact ⟨by simp [sg]; omega, by simp [sg]; omega⟩
  · exact ⟨by simp [sg]; omega, by simp [sg]; omega⟩

/-- What Decode tells of a finite double above nothing. -/
theorem dec_fin (x : Int) (h0 : 0 < x) (h1 : x < 9218868437227405312) : dm x = man x ∧ de x = (ex x : Int) - 1074 := by
  have hf : fld x = x / 4503599627370496 := by simp only [fld]; omega
  by_cases hs : x < 4503599627370496
  · have c : cls x = 1 := by
      rw [cls, hf, if_pos (by omega), if_neg (by omega)]
    constructor
    · rw [dm, c, if_neg (by omega), if_pos (by omega), man, if_pos hs]; omega
    · rw [de, c, if_neg (by omega), if_pos rfl, ex]; omega
  · have c : cls x = 2 := by
      rw [cls, hf, if_neg (by omega), if_neg (by omega)]
    constructor
    · rw [dm, c, if_pos rfl, man, if_neg hs]
    · rw [de, c, if_pos rfl, ex, hf]; omega
theorem dec_zero : dm 0 = 0 ∧ de 0 = 0 := by decide
end Ie

end Go.Proofs.YtpnjafacoeinnabDoor
