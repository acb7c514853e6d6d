import Derived.Test.YtpnjafacoeinnaaDoorINearLawF
import Derived.Test.YtpnjafacoeinnaaDoorINearLawT
namespace Go.Proofs.YtpnjafacoeinnaaDoor
open Go Go.RowKit Go.Deep

theorem nearLaw_any (neg : Bool) (pN pM pD : Option Addr) (nN cN nM cM nD cD : Nat) (zN zD : List Int) (e by' : Int) (w : World) (hN : Arg w pN nN cN zN) (hD : Arg w pD nD cD zD) (hT : Tab w) :
    Calls Tryd.prog 6 #[.agg (tieCells neg pN pM pD nN cN nM cM nD cD e by')] w fun r w' => r = .returned (.bool true) ∧ Below w.heap.size w w'  := by
  by_cases h : 60 < nN ∨ 60 < nD ∨ 9000 < e ∨ e < -9000 ∨ Nm.val zD = 0
  · exact nearLaw_out neg pN pM pD nN cN nM cM nD cD zN zD e by' w hN hD hT h
  · cases neg
    · exact nearLaw_in_f pN pM pD nN cN nM cM nD cD zN zD e by' w hN hD hT (by omega) (by omega) (by omega) (by omega) (by omega)
    · exact nearLaw_in_t pN pM pD nN cN nM cM nD cD zN zD e by' w hN hD hT (by omega) (by omega) (by omega) (by omega) (by omega)
end Go.Proofs.YtpnjafacoeinnaaDoor
