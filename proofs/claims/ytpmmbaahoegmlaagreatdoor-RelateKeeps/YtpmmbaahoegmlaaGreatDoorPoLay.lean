/-
  THE SHELF's strings.ToUpper at this seat (mklay15.py).
-/
import Derived.Test.YtpmmbaahoegmlaaGreatDoorJLay
import Derived.Shelf.Strings.OnBuilder
namespace Go.Proofs.YtpmmbaahoegmlaaGreatDoor
open Go Go.RowKit Go.Deep Go.Shelf

set_option maxRecDepth 100000 in
theorem upLays : Go.Proofs.Lays.n158 Tryz.prog jren where
  mixed := by kernel_rfl
  f118 := Tryz.func205.trans (congrArg some (by kernel_rfl))
  f158 := Tryz.func181.trans (congrArg some (by kernel_rfl))
  f165 := Tryz.func142.trans (congrArg some (by kernel_rfl))
  f166 := Tryz.func112.trans (congrArg some (by kernel_rfl))
  f167 := Tryz.func111.trans (congrArg some (by kernel_rfl))
  f168 := Tryz.func206.trans (congrArg some (by kernel_rfl))
  f169 := Tryz.func113.trans (congrArg some (by kernel_rfl))
  f197 := Tryz.func161.trans (congrArg some (by kernel_rfl))
  f203 := Tryz.func197.trans (congrArg some (by kernel_rfl))
  f230 := Tryz.func196.trans (congrArg some (by kernel_rfl))
  f240 := Tryz.func139.trans (congrArg some (by kernel_rfl))
  f241 := Tryz.func173.trans (congrArg some (by kernel_rfl))
  f242 := Tryz.func217.trans (congrArg some (by kernel_rfl))
  f260 := Tryz.func186.trans (congrArg some (by kernel_rfl))
  f262 := Tryz.func208.trans (congrArg some (by kernel_rfl))
  f270 := Tryz.func207.trans (congrArg some (by kernel_rfl))
  f274 := Tryz.func232.trans (congrArg some (by kernel_rfl))
  f275 := Tryz.func233.trans (congrArg some (by kernel_rfl))
  f276 := Tryz.func172.trans (congrArg some (by kernel_rfl))
  f277 := Tryz.func191.trans (congrArg some (by kernel_rfl))
  f278 := Tryz.func231.trans (congrArg some (by kernel_rfl))
  f313 := Tryz.func218.trans (congrArg some (by kernel_rfl))
  t0 := by kernel_rfl
  a0 := fun _ => by kernel_rfl
  z0 := fun _ => by kernel_rfl
  v0 := fun _ => by kernel_rfl
  t3 := by kernel_rfl
  a3 := fun _ => by kernel_rfl
  z3 := fun _ => by kernel_rfl
  v3 := fun _ => by kernel_rfl
  t4 := by kernel_rfl
  a4 := fun _ => by kernel_rfl
  z4 := fun _ => by kernel_rfl
  v4 := fun _ => by kernel_rfl
  t5 := by kernel_rfl
  a5 := fun _ => by kernel_rfl
  z5 := fun _ => by kernel_rfl
  v5 := fun _ => by kernel_rfl
  t9 := by kernel_rfl
  a9 := fun _ => by kernel_rfl
  z9 := fun _ => by kernel_rfl
  v9 := fun _ => by kernel_rfl
  t20 := by kernel_rfl
  a20 := fun _ => by kernel_rfl
  z20 := fun _ => by kernel_rfl
  v20 := fun _ => by kernel_rfl
  t21 := by kernel_rfl
  a21 := fun _ => by kernel_rfl
  z21 := fun _ => by kernel_rfl
  v21 := fun _ => by kernel_rfl
  t37 := by kernel_rfl
  a37 := fun _ => by kernel_rfl
  z37 := fun _ => by kernel_rfl
  v37 := fun _ => by kernel_rfl
  t46 := by kernel_rfl
  a46 := fun _ => by kernel_rfl
  z46 := fun _ => by kernel_rfl
  v46 := fun _ => by kernel_rfl
  t51 := by kernel_rfl
  a51 := fun _ => by kernel_rfl
  z51 := fun _ => by kernel_rfl
  v51 := fun _ => by kernel_rfl
  t70 := by kernel_rfl
  a70 := fun _ => by kernel_rfl
  z70 := fun _ => by kernel_rfl
  v70 := fun _ => by kernel_rfl
  t72 := by kernel_rfl
  a72 := fun _ => by kernel_rfl
  z72 := fun _ => by kernel_rfl
  v72 := fun _ => by kernel_rfl
  t75 := by kernel_rfl
  a75 := fun _ => by kernel_rfl
  z75 := fun _ => by kernel_rfl
  v75 := fun _ => by kernel_rfl
  t76 := by kernel_rfl
  a76 := fun _ => by kernel_rfl
  z76 := fun _ => by kernel_rfl
  v76 := fun _ => by kernel_rfl
  t105 := by kernel_rfl
  a105 := fun _ => by kernel_rfl
  z105 := fun _ => by kernel_rfl
  v105 := fun _ => by kernel_rfl
  t107 := by kernel_rfl
  a107 := fun _ => by kernel_rfl
  z107 := fun _ => by kernel_rfl
  v107 := fun _ => by kernel_rfl
  t119 := by kernel_rfl
  a119 := fun _ => by kernel_rfl
  z119 := fun _ => by kernel_rfl
  t127 := by kernel_rfl
  a127 := fun _ => by kernel_rfl
  z127 := fun _ => by kernel_rfl
  v127 := fun _ => by kernel_rfl
  t138 := by kernel_rfl
  a138 := fun _ => by kernel_rfl
  z138 := fun _ => by kernel_rfl
  v138 := fun _ => by kernel_rfl
  t139 := by kernel_rfl
  a139 := fun _ => by kernel_rfl
  z139 := fun _ => by kernel_rfl
  v139 := fun _ => by kernel_rfl
  t160 := by kernel_rfl
  a160 := fun _ => by kernel_rfl
  z160 := fun _ => by kernel_rfl
  v160 := fun _ => by kernel_rfl
  t162 := by kernel_rfl
  a162 := fun _ => by kernel_rfl
  z162 := fun _ => by kernel_rfl
  v162 := fun _ => by kernel_rfl
  t164 := by kernel_rfl
  a164 := fun _ => by kernel_rfl
  z164 := fun _ => by kernel_rfl
  v164 := fun _ => by kernel_rfl
  t203 := by kernel_rfl
  a203 := fun _ => by kernel_rfl
  z203 := fun _ => by kernel_rfl
  v203 := fun _ => by kernel_rfl
  t206 := by kernel_rfl
  a206 := fun _ => by kernel_rfl
  z206 := fun _ => by kernel_rfl
  v206 := fun _ => by kernel_rfl
  t208 := by kernel_rfl
  a208 := fun _ => by kernel_rfl
  z208 := fun _ => by kernel_rfl
  v208 := fun _ => by kernel_rfl
  g3 := by kernel_rfl
  g4 := by kernel_rfl
  g13 := by kernel_rfl
end Go.Proofs.YtpmmbaahoegmlaaGreatDoor
