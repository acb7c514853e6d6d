/-
  CharsKeeps: mark.
-/
import Derived.Test.YtgliefdefklfeabDoorChRow
namespace Go.Proofs.YtgliefdefklfeabDoor
open Go Go.RowKit Go.Deep Go.Shelf

namespace Ch
def mk5 (i j : Nat) : L8 := [UInt8.ofNat i, UInt8.ofNat (i / 256), UInt8.ofNat j, UInt8.ofNat (j / 256), UInt8.ofNat (j / 65536)]
def mk (i j : Nat) : ByteArray := ⟨#[109, 97, 114, 107, 32]⟩ ++ tx (mk5 i j)
end Ch
set_option maxRecDepth 100000 in
set_option maxHeartbeats 2000000 in
theorem mark_any (i j : Nat) (w : World) :
    Calls Tryd.prog 17 #[.int .i64 (i : Int), .int .i64 (j : Int)] w fun e w' => e = .returned (.string (Ch.mk i j)) ∧ Below w.heap.size w w' := by
  have A := hid (alloc_b w (.cells #[.int .u8 ((i : Int) % 256), .int .u8 ((i : Int) / 256 % 256), .int .u8 ((j : Int) % 256), .int .u8 ((j : Int) / 256 % 256), .int .u8 ((j : Int) / 65536 % 256)] 5))
  have CV : (convert 40 9 (.slice (some ⟨w.heap.size, 0, none⟩) 5 5)).run Tryd.prog (w.alloc (.cells #[.int .u8 ((i : Int) % 256), .int .u8 ((i : Int) / 256 % 256), .int .u8 ((j : Int) % 256), .int .u8 ((j : Int) / 256 % 256), .int .u8 ((j : Int) / 65536 % 256)] 5)) = .ok (.string (Ch.tx (Ch.mk5 i j))) (w.alloc (.cells #[.int .u8 ((i : Int) % 256), .int .u8 ((i : Int) / 256 % 256), .int .u8 ((j : Int) % 256), .int .u8 ((j : Int) / 256 % 256), .int .u8 ((j : Int) / 65536 % 256)] 5)) := by
    have B : B8 0 (w.alloc (.cells #[.int .u8 ((i : Int) % 256), .int .u8 ((i : Int) / 256 % 256), .int .u8 ((j : Int) % 256), .int .u8 ((j : Int) / 256 % 256), .int .u8 ((j : Int) / 65536 % 256)] 5)) (.slice (some ⟨w.heap.size, 0, none⟩) 5 5) (Ch.mk5 i j) := by
      have q := World.ownsRow_lit (base := 0) (e := 5) (size := 1) w #[.int .u8 ((i : Int) % 256), .int .u8 ((i : Int) / 256 % 256), .int .u8 ((j : Int) % 256), .int .u8 ((j : Int) / 256 % 256), .int .u8 ((j : Int) / 65536 % 256)] 5 (Nat.zero_le _) (by decide) rfl
      have e : Lib.byteCells (Ch.mk5 i j) = (#[.int .u8 ((i : Int) % 256), .int .u8 ((i : Int) / 256 % 256), .int .u8 ((j : Int) % 256), .int .u8 ((j : Int) / 256 % 256), .int .u8 ((j : Int) / 65536 % 256)] : Array Value).toList := by
        simp [Lib.byteCells, Ch.mk5]
      rw [B8, e]
      exact q
    exact B.conv
  go_enter Tryd.func17, Tryd.ntmps17
  go_wp2
  go_ret
  exact ⟨rfl, A.out⟩
end Go.Proofs.YtgliefdefklfeabDoor
