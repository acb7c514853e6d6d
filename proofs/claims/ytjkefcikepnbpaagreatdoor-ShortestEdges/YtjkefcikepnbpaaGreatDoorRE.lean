/-
  Texts put together: VItoa, LPuL, LFmt, VDl, LFmt2, LGt, LWithin, LDigits, LApi, LNmN, LHoldA.
-/
import Derived.Test.YtjkefcikepnbpaaGreatDoorVStr
import Derived.Shelf.Strconv.Itoa3
import Derived.Shelf.Pu.ParseUintPublic10
import Derived.Lib.AppendIntMem
import Derived.Shelf.Abstract
import Derived.Test.YtjkefcikepnbpaaGreatDoorRA
import Derived.Test.YtjkefcikepnbpaaGreatDoorVOrd
import Derived.Lib.ItoaNum
import Derived.Test.YtjkefcikepnbpaaGreatDoorRD
import Derived.Deep.LoopGhost
import Derived.Test.YtjkefcikepnbpaaGreatDoorLSearch
import Derived.BigQuiet
namespace Go.Proofs.YtjkefcikepnbpaaGreatDoor
open Go Go.RowKit Go.Deep Go.Shelf

def itoaLays_ren : Go.Shelf.Ren := ⟨fun | 171 => 70 | 243 => 106 | 246 => 131 | 283 => 96 | 284 => 97 | 285 => 98 | 286 => 99 | 129 => 108 | 317 => 123 | 318 => 124 | 319 => 125 | 320 => 126 | 337 => 146 | 338 => 55 | n => n, fun | 3 => 3 | 9 => 9 | 2 => 2 | 4 => 4 | 171 => 135 | 0 => 0 | 53 => 22 | 37 => 38 | 5 => 5 | 173 => 137 | 212 => 165 | 51 => 166 | 20 => 20 | 213 => 167 | 46 => 76 | 232 => 197 | 233 => 112 | n => n, fun | 17 => 3 | 18 => 5 | 19 => 0 | n => n⟩
theorem itoaLays : Go.Proofs.LaysM.n171 Tryz.prog itoaLays_ren := {
  mixed := by kernel_rfl
  f129 := Tryz.func108.trans (congrArg some (by kernel_rfl))
  f171 := Tryz.func70.trans (congrArg some (by kernel_rfl))
  f243 := Tryz.func106.trans (congrArg some (by kernel_rfl))
  f246 := Tryz.func131.trans (congrArg some (by kernel_rfl))
  f283 := Tryz.func96.trans (congrArg some (by kernel_rfl))
  f284 := Tryz.func97.trans (congrArg some (by kernel_rfl))
  f285 := Tryz.func98.trans (congrArg some (by kernel_rfl))
  f286 := Tryz.func99.trans (congrArg some (by kernel_rfl))
  f317 := Tryz.func123.trans (congrArg some (by kernel_rfl))
  f318 := Tryz.func124.trans (congrArg some (by kernel_rfl))
  f319 := Tryz.func125.trans (congrArg some (by kernel_rfl))
  f320 := Tryz.func126.trans (congrArg some (by kernel_rfl))
  f337 := Tryz.func146.trans (congrArg some (by kernel_rfl))
  f338 := Tryz.func55.trans (congrArg some (by kernel_rfl))
  t0 := Tryz.underlying0
  a0 := Tryz.isAgg0
  z0 := Tryz.sizeOf0
  v0 := Tryz.zeroValue0
  t2 := Tryz.underlying2
  a2 := Tryz.isAgg2
  z2 := Tryz.sizeOf2
  v2 := Tryz.zeroValue2
  t3 := Tryz.underlying3
  a3 := Tryz.isAgg3
  z3 := Tryz.sizeOf3
  v3 := Tryz.zeroValue3
  t4 := Tryz.underlying4
  a4 := Tryz.isAgg4
  z4 := Tryz.sizeOf4
  v4 := Tryz.zeroValue4
  t5 := Tryz.underlying5
  a5 := Tryz.isAgg5
  z5 := Tryz.sizeOf5
  v5 := Tryz.zeroValue5
  t9 := Tryz.underlying9
  a9 := Tryz.isAgg9
  z9 := Tryz.sizeOf9
  v9 := Tryz.zeroValue9
  t20 := Tryz.underlying20
  a20 := Tryz.isAgg20
  z20 := Tryz.sizeOf20
  v20 := Tryz.zeroValue20
  t37 := Tryz.underlying38
  a37 := Tryz.isAgg38
  z37 := Tryz.sizeOf38
  v37 := Tryz.zeroValue38
  t46 := Tryz.underlying76
  a46 := Tryz.isAgg76
  z46 := Tryz.sizeOf76
  v46 := Tryz.zeroValue76
  t51 := Tryz.underlying166
  a51 := Tryz.isAgg166
  z51 := Tryz.sizeOf166
  v51 := Tryz.zeroValue166
  t53 := Tryz.underlying22
  a53 := Tryz.isAgg22
  z53 := Tryz.sizeOf22
  v53 := Tryz.zeroValue22
  t171 := Tryz.underlying135
  a171 := Tryz.isAgg135
  z171 := Tryz.sizeOf135
  v171 := Tryz.zeroValue135
  t173 := Tryz.underlying137
  a173 := Tryz.isAgg137
  z173 := Tryz.sizeOf137
  v173 := Tryz.zeroValue137
  t212 := Tryz.underlying165
  a212 := Tryz.isAgg165
  z212 := Tryz.sizeOf165
  v212 := Tryz.zeroValue165
  t213 := Tryz.underlying167
  a213 := Tryz.isAgg167
  z213 := Tryz.sizeOf167
  t232 := Tryz.underlying197
  a232 := Tryz.isAgg197
  z232 := Tryz.sizeOf197
  v232 := Tryz.zeroValue197
  t233 := Tryz.underlying112
  a233 := Tryz.isAgg112
  z233 := Tryz.sizeOf112
  v233 := Tryz.zeroValue112
  g17 := by kernel_rfl
  g18 := by kernel_rfl
  g19 := by kernel_rfl
  i0 := by kernel_rfl
  i2 := by kernel_rfl
  i3 := by kernel_rfl
  i4 := by kernel_rfl
  i5 := by kernel_rfl
  i9 := by kernel_rfl
  i20 := by kernel_rfl
  i37 := by kernel_rfl
  i46 := by kernel_rfl
  i51 := by kernel_rfl
  i53 := by kernel_rfl
  i171 := by kernel_rfl
  i173 := by kernel_rfl
  i212 := by kernel_rfl
  i232 := by kernel_rfl
  i233 := by kernel_rfl
  m17 := by kernel_rfl
  m18 := by kernel_rfl
  m19 := by kernel_rfl }

/-- The table of powers of ten lies as the text lays it. -/
def Tab10 (w : World) : Prop := Lib.TabIs Tryz.prog w "internal/strconv.uint64pow10" .u64 Lib.pow10Tab

def itl (n : Int) : List Int := (Lib.itoa n).map fun b => (b.toNat : Int)
theorem itl_str (n : Int) : Str ⟨(Lib.itoa n).toArray⟩ (itl n) := rfl

theorem below_grown {w : World} (k : Nat) (os : Array Obj) : Below w.heap.size w (Go.Sort.grow (w.drewN k) os) := by
  refine ⟨rfl, rfl, rfl, ?_, fun j hj => ?_⟩
  · show w.heap.size ≤ (w.heap ++ os).size
    simp
  · show (w.heap ++ os)[j]? = w.heap[j]?
    rw [Array.getElem?_append_left hj]

theorem itoa_any (n : Int) (w : World) (h0 : -9223372036854775808 ≤ n) (h1 : n ≤ 9223372036854775807) (ht : Tab10 w) :
    Calls Tryz.prog 70 #[.int .i64 n] w fun e w' => e = .returned (.string ⟨(Lib.itoa n).toArray⟩) ∧ Below w.heap.size w w' := by
  refine (Any.strconv_Itoa itoaLays n h0 h1 w ht).mono ?_
  rintro e w' ⟨rfl, k, os, rfl⟩
  exact ⟨rfl, below_grown k os⟩
end Go.Proofs.YtjkefcikepnbpaaGreatDoor

namespace Go.Proofs.YtjkefcikepnbpaaGreatDoor
open Go Go.RowKit Go.Deep Go.Shelf

def puLays_ren : Go.Shelf.Ren := ⟨fun | 14 => 46 | 16 => 66 | 17 => 67 | 19 => 90 | 20 => 91 | 21 => 92 | 22 => 93 | 23 => 94 | 24 => 95 | 25 => 113 | 27 => 70 | 26 => 122 | 28 => 106 | 29 => 131 | 30 => 96 | 31 => 97 | 32 => 98 | 33 => 99 | 35 => 108 | 34 => 123 | 36 => 124 | 37 => 125 | 38 => 126 | 39 => 146 | 40 => 55 | n => n, fun | 9 => 9 | 3 => 3 | 22 => 22 | 24 => 78 | 25 => 79 | 4 => 4 | 34 => 130 | 5 => 5 | 36 => 76 | 37 => 38 | 0 => 0 | 39 => 132 | 21 => 21 | 44 => 161 | 47 => 171 | 50 => 182 | 48 => 180 | 2 => 2 | 52 => 135 | 55 => 137 | 59 => 165 | 60 => 166 | 20 => 20 | 61 => 167 | 65 => 197 | 66 => 112 | 67 => 149 | n => n, fun | 0 => 1 | 1 => 2 | 2 => 3 | 3 => 5 | 4 => 0 | n => n⟩
theorem puLays : Go.Proofs.LaysPu.n14 Tryz.prog puLays_ren := {
  mixed := by kernel_rfl
  f14 := Tryz.func46.trans (congrArg some (by kernel_rfl))
  f16 := Tryz.func66.trans (congrArg some (by kernel_rfl))
  f17 := Tryz.func67.trans (congrArg some (by kernel_rfl))
  f19 := Tryz.func90.trans (congrArg some (by kernel_rfl))
  f20 := Tryz.func91.trans (congrArg some (by kernel_rfl))
  f21 := Tryz.func92.trans (congrArg some (by kernel_rfl))
  f22 := Tryz.func93.trans (congrArg some (by kernel_rfl))
  f23 := Tryz.func94.trans (congrArg some (by kernel_rfl))
  f24 := Tryz.func95.trans (congrArg some (by kernel_rfl))
  f25 := Tryz.func113.trans (congrArg some (by kernel_rfl))
  f26 := Tryz.func122.trans (congrArg some (by kernel_rfl))
  f27 := Tryz.func70.trans (congrArg some (by kernel_rfl))
  f28 := Tryz.func106.trans (congrArg some (by kernel_rfl))
  f29 := Tryz.func131.trans (congrArg some (by kernel_rfl))
  f30 := Tryz.func96.trans (congrArg some (by kernel_rfl))
  f31 := Tryz.func97.trans (congrArg some (by kernel_rfl))
  f32 := Tryz.func98.trans (congrArg some (by kernel_rfl))
  f33 := Tryz.func99.trans (congrArg some (by kernel_rfl))
  f34 := Tryz.func123.trans (congrArg some (by kernel_rfl))
  f35 := Tryz.func108.trans (congrArg some (by kernel_rfl))
  f36 := Tryz.func124.trans (congrArg some (by kernel_rfl))
  f37 := Tryz.func125.trans (congrArg some (by kernel_rfl))
  f38 := Tryz.func126.trans (congrArg some (by kernel_rfl))
  f39 := Tryz.func146.trans (congrArg some (by kernel_rfl))
  f40 := Tryz.func55.trans (congrArg some (by kernel_rfl))
  t0 := Tryz.underlying0
  a0 := Tryz.isAgg0
  z0 := Tryz.sizeOf0
  v0 := Tryz.zeroValue0
  i0 := by kernel_rfl
  t2 := Tryz.underlying2
  a2 := Tryz.isAgg2
  z2 := Tryz.sizeOf2
  v2 := Tryz.zeroValue2
  i2 := by kernel_rfl
  t3 := Tryz.underlying3
  a3 := Tryz.isAgg3
  z3 := Tryz.sizeOf3
  v3 := Tryz.zeroValue3
  i3 := by kernel_rfl
  t4 := Tryz.underlying4
  a4 := Tryz.isAgg4
  z4 := Tryz.sizeOf4
  v4 := Tryz.zeroValue4
  i4 := by kernel_rfl
  t5 := Tryz.underlying5
  a5 := Tryz.isAgg5
  z5 := Tryz.sizeOf5
  v5 := Tryz.zeroValue5
  i5 := by kernel_rfl
  t9 := Tryz.underlying9
  a9 := Tryz.isAgg9
  z9 := Tryz.sizeOf9
  v9 := Tryz.zeroValue9
  i9 := by kernel_rfl
  t20 := Tryz.underlying20
  a20 := Tryz.isAgg20
  z20 := Tryz.sizeOf20
  v20 := Tryz.zeroValue20
  i20 := by kernel_rfl
  t21 := Tryz.underlying21
  a21 := Tryz.isAgg21
  z21 := Tryz.sizeOf21
  v21 := Tryz.zeroValue21
  i21 := by kernel_rfl
  t22 := Tryz.underlying22
  a22 := Tryz.isAgg22
  z22 := Tryz.sizeOf22
  v22 := Tryz.zeroValue22
  i22 := by kernel_rfl
  t24 := Tryz.underlying78
  a24 := Tryz.isAgg78
  z24 := Tryz.sizeOf78
  v24 := Tryz.zeroValue78
  i24 := by kernel_rfl
  t25 := Tryz.underlying79
  a25 := Tryz.isAgg79
  z25 := Tryz.sizeOf79
  v25 := Tryz.zeroValue79
  i25 := by kernel_rfl
  t34 := Tryz.underlying130
  a34 := Tryz.isAgg130
  z34 := Tryz.sizeOf130
  v34 := Tryz.zeroValue130
  i34 := by kernel_rfl
  c34 := by kernel_rfl
  t36 := Tryz.underlying76
  a36 := Tryz.isAgg76
  z36 := Tryz.sizeOf76
  v36 := Tryz.zeroValue76
  i36 := by kernel_rfl
  t37 := Tryz.underlying38
  a37 := Tryz.isAgg38
  z37 := Tryz.sizeOf38
  v37 := Tryz.zeroValue38
  i37 := by kernel_rfl
  t39 := Tryz.underlying132
  a39 := Tryz.isAgg132
  z39 := Tryz.sizeOf132
  v39 := Tryz.zeroValue132
  i39 := by kernel_rfl
  t44 := Tryz.underlying161
  a44 := Tryz.isAgg161
  z44 := Tryz.sizeOf161
  v44 := Tryz.zeroValue161
  i44 := by kernel_rfl
  t47 := Tryz.underlying171
  a47 := Tryz.isAgg171
  z47 := Tryz.sizeOf171
  v47 := Tryz.zeroValue171
  i47 := by kernel_rfl
  t48 := Tryz.underlying180
  a48 := Tryz.isAgg180
  z48 := Tryz.sizeOf180
  v48 := Tryz.zeroValue180
  i48 := by kernel_rfl
  t50 := Tryz.underlying182
  a50 := Tryz.isAgg182
  z50 := Tryz.sizeOf182
  v50 := Tryz.zeroValue182
  i50 := by kernel_rfl
  t52 := Tryz.underlying135
  a52 := Tryz.isAgg135
  z52 := Tryz.sizeOf135
  v52 := Tryz.zeroValue135
  i52 := by kernel_rfl
  t55 := Tryz.underlying137
  a55 := Tryz.isAgg137
  z55 := Tryz.sizeOf137
  v55 := Tryz.zeroValue137
  i55 := by kernel_rfl
  t59 := Tryz.underlying165
  a59 := Tryz.isAgg165
  z59 := Tryz.sizeOf165
  v59 := Tryz.zeroValue165
  i59 := by kernel_rfl
  t60 := Tryz.underlying166
  a60 := Tryz.isAgg166
  z60 := Tryz.sizeOf166
  v60 := Tryz.zeroValue166
  i60 := by kernel_rfl
  t61 := Tryz.underlying167
  a61 := Tryz.isAgg167
  z61 := Tryz.sizeOf167
  t65 := Tryz.underlying197
  a65 := Tryz.isAgg197
  z65 := Tryz.sizeOf197
  v65 := Tryz.zeroValue197
  i65 := by kernel_rfl
  t66 := Tryz.underlying112
  a66 := Tryz.isAgg112
  z66 := Tryz.sizeOf112
  v66 := Tryz.zeroValue112
  i66 := by kernel_rfl
  t67 := Tryz.underlying149
  a67 := Tryz.isAgg149
  z67 := Tryz.sizeOf149
  v67 := Tryz.zeroValue149
  i67 := by kernel_rfl
  g0 := by kernel_rfl
  m0 := by kernel_rfl
  g1 := by kernel_rfl
  m1 := by kernel_rfl
  g2 := by kernel_rfl
  m2 := by kernel_rfl
  g3 := by kernel_rfl
  m3 := by kernel_rfl
  g4 := by kernel_rfl
  m4 := by kernel_rfl }
end Go.Proofs.YtjkefcikepnbpaaGreatDoor

namespace Go.Proofs.YtjkefcikepnbpaaGreatDoor
open Go Go.RowKit Go.Deep Go.Shelf Go.Sort

set_option maxRecDepth 100000 in
set_option maxHeartbeats 4000000 in
theorem zfmtI_any (u : Nat) (w : World) (hu64 : u < 18446744073709551616) (htab : Tab10 w) :
    Calls Tryz.prog 68 #[.int .u64 u, .int .i64 10] w fun e w' => e = .returned (.string ⟨(Lib.decDigits u).toArray⟩) ∧ Below w.heap.size w w' := by
  have e283 : ∀ args w, (callFunc 96 args).run Tryz.prog w = .ok (.enter 96 args) w := enters_of Tryz.func96 (by kernel_rfl) rfl
  have e284 : ∀ args w, (callFunc 97 args).run Tryz.prog w = .ok (.enter 97 args) w := enters_of Tryz.func97 (by kernel_rfl) rfl
  have e285 : ∀ args w, (callFunc 98 args).run Tryz.prog w = .ok (.enter 98 args) w := enters_of Tryz.func98 (by kernel_rfl) rfl
  by_cases hs : u < 100
  · have SM := Any.internal_strconv_small { itoaLays with } u hs w
    change Calls Tryz.prog 96 _ _ _ at SM
    have hs2 : (u : Int) < 100 := by omega
    go_enter Tryz.func68, Tryz.ntmps68
    go_wp2_with (go_at_fn 96; refine SM.mono ?_; rintro e w' ⟨rfl, rfl⟩)
    go_ret
    exact ⟨rfl, Below.refl _ _⟩
  · have hu1 : 1 ≤ u := by omega
    have hs2 : ¬ (u : Int) < 100 := by omega
    have hnd20 : Lib.nDigits u ≤ 20 := by have := Lib.numDigits_eq u hu1 hu64; split at this <;> omega
    have hb3 : Lib.nDigits u ≤ 23 := by omega
    have hal : Tryz.prog.arrayLen 135 = 24 := by simp [Program.arrayLen, Tryz.underlying135]
    have hsl : ∀ W, (Instr.sliceAt 135 (.pointer (some ⟨w.heap.size, 0, none⟩)) none (some (.int .i64 (Lib.nDigits u : Int))) none).run Tryz.prog W = .ok (.slice (some ⟨w.heap.size, 0, none⟩) (Lib.nDigits u) 24) W := fun W => by
      rw [run_sliceAt_array_h W 135 ⟨w.heap.size, 0, none⟩ (by simp [Program.arrayLen, Program.elem, Tryz.underlying135]) .i64 (Lib.nDigits u : Int) (by omega) (by rw [hal]; omega)]
      go_simp
    have hH0 := Lib.holds_zero0 w 135 (Lib.nDigits u) (by omega)
    have hfmt := Any.internal_strconv_formatBase10 { itoaLays with } w.heap.size 0 24 u (Array.replicate (Lib.nDigits u) 0) (w.alloc (.cells Lib.zeros24 135)) hH0 (by rw [Array.size_replicate]; exact Lib.lt_pow_nDigits u) hu64 (by rw [Array.size_replicate]; omega)
    rw [Array.size_replicate] at hfmt
    change Calls Tryz.prog 98 _ _ _ at hfmt
    have ND := Any.internal_strconv_numDigits { itoaLays with } u hu1 hu64 _ (Lib.tabIs_alloc htab (.cells Lib.zeros24 135))
    change Calls Tryz.prog 97 _ _ _ at ND
    have HH0 := Lib.hid hH0
    clear hH0 hal
    go_enter Tryz.func68, Tryz.ntmps68
    go_wp2_with (first
      | (go_at_fn 97; refine ND.mono ?_; rintro e w' ⟨rfl, rfl⟩))
    go_at_fn 98
    refine hfmt.mono ?_
    rintro e w' ⟨rfl, k, v', dk, rfl, hF⟩
    have hcv : (convert 38 9 (.slice (some ⟨w.heap.size, 0, none⟩) (Lib.nDigits u) 24)).run Tryz.prog ((putRow (fun (b : UInt8) => Value.int .u8 (b.toNat : Int)) (w.alloc (.cells Lib.zeros24 135)) w.heap.size 0 dk).drewN k) = .ok (.string ⟨(Lib.decDigits u).toArray⟩) ((putRow (fun (b : UInt8) => Value.int .u8 (b.toNat : Int)) (w.alloc (.cells Lib.zeros24 135)) w.heap.size 0 dk).drewN k) := by
      have h := run_convert_bytes_back (P := Tryz.prog) ((putRow (fun (b : UInt8) => Value.int .u8 (b.toNat : Int)) (w.alloc (.cells Lib.zeros24 135)) w.heap.size 0 dk).drewN k) 38 9 5 ⟨w.heap.size, 0, none⟩ 24 (Lib.decDigits u) Tryz.underlying38 Tryz.underlying5 Tryz.underlying9 (fun j hj => by
        rw [Lib.row_is_numeral hF j hj, Lib.add_plain, World.cell?_drewN]
        exact cell?_putRow (fun (b : UInt8) => Value.int .u8 (b.toNat : Int)) _ w.heap.size 0 _ dk HH0.out (by rw [hF.size, Array.size_replicate]) j (by rw [hF.size]; rw [Lib.decDigits_length] at hj; exact hj))
      rw [Lib.decDigits_length] at h
      exact h
    go_wp2
    go_ret
    obtain ⟨os, eo⟩ := Lib.fin_at w (.cells Lib.zeros24 135) dk k 0
    exact ⟨rfl, by rw [eo]; exact below_grown k os⟩
end Go.Proofs.YtjkefcikepnbpaaGreatDoor

namespace Go.Proofs.YtjkefcikepnbpaaGreatDoor
namespace Sc

/-- A number's digits, as bytes. -/
def dl (u : Nat) : List Int := (Lib.decDigits u).map fun b => (b.toNat : Int)
theorem dl_small {u : Nat} (h : u < 10) : dl u = [48 + (u : Int)] := by
  unfold dl
  rw [Lib.decDigits_one h]
  simp only [List.map_cons, List.map_nil]
  rw [UInt8.toNat_ofNat_of_lt' (by show 48 + u < 256; omega)]
  simp
theorem dl_big {u : Nat} (h : ¬ u < 10) : dl u = dl (u / 10) ++ [48 + ((u % 10 : Nat) : Int)] := by
  unfold dl
  rw [Lib.decDigits, dif_neg h, List.map_append]
  simp only [List.map_cons, List.map_nil]
  rw [UInt8.toNat_ofNat_of_lt' (by show 48 + u % 10 < 256; omega)]
  simp
theorem dl_is (u : Nat) : (∀ x ∈ dl u, dg x = true) ∧ dl u ≠ [] ∧ cap (dl u) = min (u : Int) 1000000000000000 := by
  induction u using Nat.strongRecOn with
  | _ u ih =>
    by_cases h : u < 10
    · rw [dl_small h]
      refine ⟨fun x hx => ?_, by simp, ?_⟩
      · rw [List.mem_singleton] at hx; subst hx; rw [dg_iff]; omega
      · have := cap_snoc [] (48 + (u : Int))
        rw [List.nil_append, cap_nil] at this
        rw [this]; omega
    · obtain ⟨h1, h2, h3⟩ := ih (u / 10) (by omega)
      rw [dl_big h]
      refine ⟨fun x hx => ?_, by simp, ?_⟩
      · rw [List.mem_append, List.mem_singleton] at hx
        rcases hx with hx | hx
        · exact h1 x hx
        · subst hx; rw [dg_iff]; omega
      · rw [cap_snoc, h3]; omega

theorem run_app {p : Int → Bool} (hp : p 0 = false) {as' bs cs : List Int} (h1 : ∀ x ∈ bs, p x = true) (h2 : p (pk cs 0) = false) : run p (as' ++ bs ++ cs) as'.length = bs.length := by
  apply run_is hp
  · intro j hj
    rw [pk_append, if_pos (by simp; omega), pk_append, if_neg (by omega), show as'.length + j - as'.length = j by omega]
    apply h1
    simp [pk, List.getD, hj]
  · rw [pk_append, if_neg (by simp), show as'.length + bs.length - (as' ++ bs).length = 0 by simp]
    exact h2
theorem take_app {as' bs cs : List Int} : ((as' ++ bs ++ cs).drop as'.length).take bs.length = bs := by
  rw [List.append_assoc, List.drop_left, List.take_left]

/-- Digits that are there, all digits. -/
def Dig (ds : List Int) : Prop := ds ≠ [] ∧ ∀ x ∈ ds, dg x = true
theorem Dig.pk0 {ds : List Int} (h : Dig ds) : dg (pk ds 0) = true := by
  obtain ⟨h1, h2⟩ := h
  cases ds with
  | nil => exact absurd rfl h1
  | cons x l => exact h2 x (by simp)

end Sc
end Go.Proofs.YtjkefcikepnbpaaGreatDoor

namespace Go.Proofs.YtjkefcikepnbpaaGreatDoor
open Go Go.RowKit Go.Deep Go.Shelf

theorem tab10_below {w w' : World} (h : Tab10 w) (k : Below w.heap.size w w') : Tab10 w' := by
  unfold Tab10 Lib.TabIs World.var? at *
  cases hg : Tryz.prog.globalNamed "internal/strconv.uint64pow10" with
  | none => rw [hg] at h; simp at h
  | some g =>
    rw [hg] at h
    simp only [Option.bind_some] at h ⊢
    have hl : g < w.heap.size := by
      rcases Nat.lt_or_ge g w.heap.size with c | c
      · exact c
      · rw [Array.getElem?_eq_none c] at h; simp at h
    rw [k.block g hl]; exact h
theorem dl_dv (u : Nat) : Digs (Sc.dl u) ∧ Sc.dl u ≠ [] ∧ dv (Sc.dl u) = (u : Int) := by
  refine ⟨fun x hx => Sc.dg_iff.1 ((Sc.dl_is u).1 x hx), (Sc.dl_is u).2.1, ?_⟩
  induction u using Nat.strongRecOn with
  | _ u ih =>
    by_cases h : u < 10
    · rw [Sc.dl_small h, dv_cons]
      simp [show dv [] = 0 from rfl]
      omega
    · rw [Sc.dl_big h, Fx.dv_snoc, ih (u / 10) (by omega)]
      omega
theorem dl_len {u : Nat} (h : u < 18446744073709551616) : (Sc.dl u).length ≤ 21 := by
  unfold Sc.dl
  rw [List.length_map, Lib.decDigits_length]
  rcases Nat.eq_zero_or_pos u with c | c
  · rw [Lib.nDigits_small (by omega)]; omega
  · have := Lib.numDigits_eq u c h
    split at this <;> omega

set_option maxRecDepth 100000 in
theorem zfmt_any (u : Nat) (w : World) (hu64 : u < 18446744073709551616) (htab : Tab10 w) :
    Calls Tryz.prog 48 #[.int .u64 u, .int .i64 10] w fun e w' => ∃ s, e = .returned (.string s) ∧ Hid (Str s (Sc.dl u)) ∧ Below w.heap.size w w' := by
  have F := hid (zfmtI_any u w hu64 htab)
  have K : Hid (Str ⟨(Lib.decDigits u).toArray⟩ (Sc.dl u)) := rfl
  clear hu64 htab
  generalize (⟨(Lib.decDigits u).toArray⟩ : ByteArray) = s at *
  go_enter Tryz.func48, Tryz.ntmps48
  go_wp2_with fail
  refine F.out.mono ?_
  rintro e w' ⟨rfl, hB⟩
  have HB := hid hB
  clear hB F
  go_wp2_with fail
  go_ret
  exact ⟨s, rfl, K, HB.out⟩

theorem parseM {M : Nat} {L : Int} (hL : L = 1000000000000000000) (hM : 1000000000000000000 ≤ M) (l : List UInt8) : ∀ (acc : Nat), (∀ x ∈ l, 48 ≤ x.toNat ∧ x.toNat ≤ 57) → (acc : Int) * 10 ^ l.length + dv (l.map fun b => (b.toNat : Int)) < L →
    ∃ u : Nat, (u : Int) = (acc : Int) * 10 ^ l.length + dv (l.map fun b => (b.toNat : Int)) ∧ Lib.parseUintM M acc l = .ok u := by
  induction l with
  | nil => intro acc _ _; exact ⟨acc, by rw [List.map_nil, show dv [] = 0 from rfl]; simp, rfl⟩
  | cons c r ih =>
    intro acc h hb
    have hc := h c (by simp)
    have hr : ∀ x ∈ r, 48 ≤ x.toNat ∧ x.toNat ≤ 57 := fun x hx => h x (by simp [hx])
    have dg : Digs (r.map fun b => (b.toNat : Int)) := by
      intro d hd
      obtain ⟨x, hx, rfl⟩ := List.mem_map.1 hd
      have := hr x hx
      omega
    have nn := (dv_bd dg).1
    have e : (acc : Int) * 10 ^ (c :: r).length + dv ((c :: r).map fun b => (b.toNat : Int)) = ((acc * 10 + (c.toNat - 48) : Nat) : Int) * 10 ^ r.length + dv (r.map fun b => (b.toNat : Int)) := by
      rw [List.map_cons, dv_cons, List.length_map, List.length_cons, Int.pow_succ]
      have : ((acc * 10 + (c.toNat - 48) : Nat) : Int) = (acc : Int) * 10 + ((c.toNat : Int) - 48) := by omega
      rw [this, Int.add_mul, Int.mul_assoc, Int.mul_comm 10 ((10 : Int) ^ r.length)]
      omega
    rw [e] at hb ⊢
    have p1 : (1 : Int) ≤ 10 ^ r.length := Fx.p_pos _
    have hle : ((acc * 10 + (c.toNat - 48) : Nat) : Int) * 1 ≤ ((acc * 10 + (c.toNat - 48) : Nat) : Int) * 10 ^ r.length := Int.mul_le_mul_of_nonneg_left p1 (by omega)
    obtain ⟨u, h1, h2⟩ := ih (acc * 10 + (c.toNat - 48)) hr hb
    refine ⟨u, h1, ?_⟩
    have g1 : ¬ 1844674407370955162 ≤ acc := by omega
    have g2 : ¬ M < acc * 10 + (c.toNat - 48) := by omega
    rw [Lib.parseUintM, if_pos hc, if_neg g1, if_neg g2]
    exact h2

set_option maxRecDepth 100000 in
theorem zparse_any (s : ByteArray) (xs : List Int) (w : World) (hs : Str s xs) (hd : Digs xs) (hn : xs ≠ []) (hb : dv xs < 1000000000000000000) (hl : xs.length ≤ 100000) :
    Calls Tryz.prog 46 #[.string s, .int .i64 10, .int .i64 64] w fun e w' => e = .returned (.tuple #[.int .u64 (dv xs), .nilIface]) ∧ Below w.heap.size w w' := by
  have hz := hs.size
  have hs' : s.data.toList.map (fun b => (b.toNat : Int)) = xs := hs
  have hall : ∀ x ∈ s.data.toList, 48 ≤ x.toNat ∧ x.toNat ≤ 57 := by
    intro x hx
    have := hd (x.toNat : Int) (by rw [← hs']; exact List.mem_map.2 ⟨x, hx, rfl⟩)
    omega
  obtain ⟨u, hu, hp⟩ := parseM (M := 2 ^ 64 - 1) rfl (by decide) s.data.toList 0 hall (by rw [hs']; simpa using hb)
  rw [hs'] at hu
  have hu2 : (dv xs).toNat = u := by simp at hu; omega
  have hP : Lib.parseUintB 64 s.data.toList = .ok (dv xs).toNat := by
    rw [Lib.parseUintB, if_neg (fun c => by rw [c] at hs'; exact hn hs'.symm), hp, hu2]
  have h := Any.strconv_ParseUint_10_at64_ok puLays s (by omega) (dv xs).toNat hP w
  change Calls Tryz.prog 46 _ _ _ at h
  have nn := (dv_bd hd).1
  rw [show (((dv xs).toNat : Nat) : Int) = dv xs by omega] at h
  refine h.mono ?_
  rintro e w' ⟨rfl, h | h⟩
  · exact ⟨rfl, by rw [h]; exact Below.refl _ _⟩
  · exact ⟨rfl, by rw [h]; exact Lib.bytesWorld_below w _ s⟩
end Go.Proofs.YtjkefcikepnbpaaGreatDoor

namespace Go.Proofs.YtjkefcikepnbpaaGreatDoor
open Go Go.RowKit Go.Deep

theorem gt53 {t : ByteArray} {L : List Int} (h : Str t L) (hn : L ≠ []) : (!(Op.bytesLess t.toList [53] || t.toList == [53])) = Sh.gt5 L ∧ (t.toList == [53]) = decide (L = [53]) := by
  have h' : t.toList.map (fun b => (b.toNat : Int)) = L := by rw [ByteArray.toList_eq]; exact h
  generalize t.toList = bs at h' ⊢
  match bs with
  | [] => exact absurd h'.symm hn
  | b :: r =>
    subst h'
    have e1 : (b = 53) ↔ ((b.toNat : Int) = 53) := by
      constructor
      · intro c; rw [c]; rfl
      · intro c; apply UInt8.toNat_inj.1; have : b.toNat = 53 := by omega
        rw [this]; rfl
    have e2 : b < 53 ↔ ((b.toNat : Int) < 53) := by
      rw [UInt8.lt_iff_toNat_lt]
      have : (53 : UInt8).toNat = 53 := rfl
      omega
    have bl : ∀ l : List UInt8, Op.bytesLess l [] = false := by intro l; cases l <;> rfl
    have ee : (((b :: r).map fun b => (b.toNat : Int)) = [53]) ↔ (b :: r = [53]) := by
      constructor
      · intro c
        have h1 := (List.cons.inj c).1
        have h2 := (List.cons.inj c).2
        rw [e1.2 h1, List.map_eq_nil_iff.1 h2]
      · intro c; rw [c]; rfl
    have gg : Sh.gt5 ((b :: r).map fun b => (b.toNat : Int)) = decide (53 < (b.toNat : Int) ∨ ((b.toNat : Int) = 53 ∧ r ≠ [])) := by
      unfold Sh.gt5
      rw [List.map_cons, List.length_cons, List.length_map]
      congr 1
      have : r ≠ [] ↔ 1 < r.length + 1 := by rw [← List.length_pos_iff]; omega
      rw [this]
      rfl
    have ll : Op.bytesLess (b :: r) [53] = decide (b < 53) := by
      show (decide (b < 53) || (b == 53 && Op.bytesLess r [])) = _
      rw [bl, Bool.and_false, Bool.or_false]
    constructor
    · rw [gg, ll, Bool.eq_iff_iff]
      have k : ((b :: r) == [53]) = decide (b :: r = [53]) := by
        rw [Bool.eq_iff_iff]; simp
      rw [k]
      by_cases c1 : b < 53
      · have := e2.1 c1
        simp [c1]
        omega
      · have n1 : ¬ ((b.toNat : Int) < 53) := fun q => c1 (e2.2 q)
        by_cases c2 : b = 53
        · have := e1.1 c2
          simp [c2]
        · have n2 : ¬ ((b.toNat : Int) = 53) := fun q => c2 (e1.2 q)
          simp [c1, c2]
          omega
    · rw [Bool.eq_iff_iff, decide_eq_true_iff, ee]
      simp
end Go.Proofs.YtjkefcikepnbpaaGreatDoor

namespace Go.Proofs.YtjkefcikepnbpaaGreatDoor
open Go Go.RowKit Go.Deep

namespace Sh
/-- What within tells. -/
noncomputable def wD (a : Int) (n : Nat) : Sc.D := match wn a n with | some U => dd U | none => ⟨false, [], 0⟩
noncomputable def wB (a : Int) (n : Nat) : Bool := (wn a n).isSome
theorem bd_room {U : Int} (h : 0 ≤ U) (hb : U < 10 ^ 1500) : Nm (dd U) := by
  have o := dd_is h
  have lo := o.1.lo
  rcases (show U = 0 ∨ 0 < U by omega) with c | c
  · rw [c, dd_zero]
    refine Ok.nm ⟨rfl, by show (-1075 : Int) ≤ 0; omega, .inl ⟨rfl, rfl⟩⟩ (by show (0 : Int) ≤ 100000; omega) (by simp)
  · obtain ⟨p1, p2, p3⟩ := place c
    have q := Fx.p_lt (Int.lt_of_le_of_lt p1 hb)
    have hp : pl U = (dd U).e + ((dd U).ds.length : Int) := rfl
    have := ln_pos h
    have hl : ln U = (dd U).ds.length := rfl
    exact o.1.nm (by omega) (by omega)
theorem V_lt {a : Int} (h0 : 0 ≤ a) (h1 : a < 9218868437227405312) : V a < 10 ^ 1384 := by
  have h2 := (Ie.vl_lt_iff (x := a) (y := 9218868437227405312) (by omega) (by omega)).2 h1
  have h3 : Ie.vl 9218868437227405312 = 2 ^ 2099 := by decide +kernel
  rw [h3] at h2
  have h4 := Int.mul_lt_mul_of_pos_right h2 T5_pos
  have h5 : (2 : Int) ^ 2099 * T5 ≤ 10 ^ 1384 := room_hi
  exact Int.lt_of_lt_of_le h4 h5
theorem B_lt {a : Int} (h0 : 0 ≤ a) (h1 : a < 9218868437227405312) : B a < 10 ^ 1384 := by
  have h2 := Ie.md_lt_vl a h0
  have h6 := Ie.vl_le (x := a + 1) (y := 9218868437227405312) (by omega) (by omega)
  have h3 : Ie.vl 9218868437227405312 = 2 ^ 2099 := by decide +kernel
  rw [h3] at h6
  have h4 := Int.mul_lt_mul_of_pos_right (Int.lt_of_lt_of_le h2 h6) T5_pos
  have h5 : (2 : Int) ^ 2099 * T5 ≤ 10 ^ 1384 := room_hi
  exact Int.lt_of_lt_of_le h4 h5
theorem p1384 : (10 : Int) ^ 1384 ≤ 10 ^ 1500 := Fx.p_le (by omega)
theorem nmV {a : Int} (h0 : 0 ≤ a) (h1 : a < 9218868437227405312) : Nm (dd (V a)) := bd_room (V_nn h0) (Int.lt_of_lt_of_le (V_lt h0 h1) p1384)
theorem B_nn {a : Int} (h0 : 0 ≤ a) : 0 ≤ B a := Int.le_of_lt (Int.lt_of_le_of_lt (V_nn h0) V_B)
theorem nmB {a : Int} (h0 : 0 ≤ a) (h1 : a < 9218868437227405312) : Nm (dd (B a)) := bd_room (B_nn h0) (Int.lt_of_lt_of_le (B_lt h0 h1) p1384)
theorem A_nn {a : Int} (h0 : 0 ≤ a) : 0 ≤ A a := by
  unfold A
  split
  · exact Int.le_refl _
  · exact B_nn (by omega)
theorem nmA {a : Int} (h0 : 0 ≤ a) (h1 : a < 9218868437227405312) : Nm (dd (A a)) := by
  refine bd_room (A_nn h0) ?_
  unfold A
  split
  · exact Int.lt_of_lt_of_le (Fx.p_pos 0) (Fx.p_le (by omega))
  · exact Int.lt_of_lt_of_le (B_lt (by omega) (by omega)) p1384
/-- Between the bounds, by Cmp. -/
theorem hD_in {a U : Int} (h0 : 0 ≤ a) (hU : 0 ≤ U) : hD (dd (A a)) (dd (B a)) (dd U) (decide (a % 2 = 0)) = inB a U := by
  have oA := dd_is (A_nn h0)
  have oB := dd_is (B_nn h0)
  have oU := dd_is hU
  unfold hD inB
  rw [cmp_uv oA.1 oU.1, cmp_uv oU.1 oB.1, oA.2, oB.2, oU.2]
  have c1 := Sc.cmpI_c (A a) U
  have c2 := Sc.cmpI_c U (B a)
  rw [Bool.eq_iff_iff]
  simp
  omega
end Sh

theorem heap_new2 (w : World) (A B : Obj) : ((w.alloc A).alloc B).heap[w.heap.size + 1]? = some B := by
  have h := heap_alloc_new (w.alloc A) B
  rwa [show (w.alloc A).heap.size = w.heap.size + 1 from Array.size_push ..] at h

def WnTold (a : Int) (n : Nat) (w : World) (e : Ending) (w' : World) : Prop :=
  ∃ t, e = .returned (.tuple #[.agg #[.bool (Sh.wD a n).neg, .string t, .int .i64 (Sh.wD a n).e], .bool (Sh.wB a n)]) ∧ Str t (Sh.wD a n).ds ∧ Below w.heap.size w w'

set_option maxRecDepth 100000 in
set_option maxHeartbeats 4000000 in
theorem zwithin_any (a : Int) (n : Nat) (s1 s2 s3 : ByteArray) (w : World) (h0 : 0 ≤ a) (hf : a < 9218868437227405312) (n1 : 1 ≤ n) (n2 : n ≤ 17) (htab : Tab10 w)
    (g1 : Str s1 (Sh.dd (Sh.V a)).ds) (g2 : Str s2 (Sh.dd (Sh.A a)).ds) (g3 : Str s3 (Sh.dd (Sh.B a)).ds) :
    Calls Tryz.prog 28 #[spanV (Sh.dd (Sh.V a)) (Sh.dd (Sh.A a)) (Sh.dd (Sh.B a)) s1 s2 s3 (decide (a % 2 = 0)), .int .i64 n] w fun e w' => WnTold a n w e w' := by
  have hsz := g1.size
  have nmv := Sh.nmV h0 hf
  have a1 := alloc_b w (.cells #[.bool (Sh.dd (Sh.V a)).neg, .string s1, .int .i64 (Sh.dd (Sh.V a)).e, .bool (Sh.dd (Sh.A a)).neg, .string s2, .int .i64 (Sh.dd (Sh.A a)).e, .bool (Sh.dd (Sh.B a)).neg, .string s3, .int .i64 (Sh.dd (Sh.B a)).e, .bool (decide (a % 2 = 0))] 51)
  have r1 := RB.new w 51 #[.bool (Sh.dd (Sh.V a)).neg, .string s1, .int .i64 (Sh.dd (Sh.V a)).e, .bool (Sh.dd (Sh.A a)).neg, .string s2, .int .i64 (Sh.dd (Sh.A a)).e, .bool (Sh.dd (Sh.B a)).neg, .string s3, .int .i64 (Sh.dd (Sh.B a)).e, .bool (decide (a % 2 = 0))]
  have TB := hid htab
  have LV : Hid ((Sh.dd (Sh.V a)).ds.length = Sh.ln (Sh.V a)) := rfl
  rw [LV.out] at hsz
  have lnb : Sh.ln (Sh.V a) ≤ 281474976710656 := nmv.len
  by_cases hl : Sh.ln (Sh.V a) ≤ n
  · have E : Hid (Sh.wD a n = Sh.dd (Sh.V a) ∧ Sh.wB a n = true) := by
      have e : Sh.wn a n = some (Sh.V a) := by rw [Sh.wn, if_pos hl]
      exact ⟨by rw [Sh.wD, e], by rw [Sh.wB, e]; rfl⟩
    have K : Hid (∀ w', Below w.heap.size w w' → WnTold a n w (.returned (.tuple #[.agg #[.bool (Sh.dd (Sh.V a)).neg, .string s1, .int .i64 (Sh.dd (Sh.V a)).e], .bool true])) w') := by
      intro w' hB
      exact ⟨s1, by rw [E.out.1, E.out.2], by rw [E.out.1]; exact g1, hB⟩
    have hle : (Sh.ln (Sh.V a) : Int) - (n : Int) ≤ 0 := by omega
    have HR := hid (And.intro r1 a1)
    clear E g1 g2 g3 nmv LV r1 a1 htab TB h0 hf
    unfold spanV
    generalize decide (a % 2 = 0) = cb at *
    generalize Sh.dd (Sh.V a) = DV at *
    generalize Sh.dd (Sh.A a) = DA at *
    generalize Sh.dd (Sh.B a) = DB at *
    generalize Sh.ln (Sh.V a) = L at *
    go_enter Tryz.func28, Tryz.ntmps28
    go_wp2_with fail
    (try simp only [Exit.inBlock, Exit.then])
    refine bodyPost_ret (fresults_row_tmp rfl _ _ (w.heap.size + 1) 25 _ (0, 0) _ rfl (heap_new2 w _ _) Tryz.underlying25 rfl (by kernel_rfl)) rfl ?_
    exact K.out _ (HR.out.2.trans ((alloc_b _ _).mono HR.out.2.size))
  · have hl2 : n < Sh.ln (Sh.V a) := by omega
    have ap : 0 < a := by
      rcases (show a = 0 ∨ 0 < a by omega) with c | c
      · rw [c, Sh.ln0] at hl2; omega
      · exact c
    have vp := Sh.V_pos ap
    obtain ⟨q1, q2, q3⟩ := Sh.head_is vp n1 hl2
    have kr := Sh.k_room ap n1 hl2
    obtain ⟨cut, hcut⟩ : ∃ cut : Nat, Sh.ln (Sh.V a) = n + cut := ⟨Sh.ln (Sh.V a) - n, by omega⟩
    have st' : Sh.st (Sh.V a) n = 10 ^ ((Sh.dd (Sh.V a)).e + (cut : Int) + 1075).toNat := by
      unfold Sh.st
      rw [hcut]
      congr 2
      omega
    have dgV : Digs (Sh.dd (Sh.V a)).ds := (Sh.dd_is (Int.le_of_lt vp)).1.digs.1
    have loV := (Sh.dd_is (Int.le_of_lt vp)).1.lo
    have Hb : dv ((Sh.dd (Sh.V a)).ds.take n) < 1000000000000000000 := by
      have := Fx.p_le (show n ≤ 17 by omega)
      rw [show (10 : Int) ^ 17 = 100000000000000000 by decide] at this
      omega
    have e1 := g1.extract 0 n
    rw [List.drop_zero, Nat.sub_zero] at e1
    have e2 := g1.extract n (Sh.ln (Sh.V a))
    rw [List.take_of_length_le (by rw [List.length_drop, LV.out]; omega)] at e2
    have PU := hid (fun wx : World => zparse_any (s1.extract 0 n) _ wx e1 (fun d hd => dgV d (List.mem_of_mem_take hd)) (by
      intro c
      have := congrArg List.length c
      rw [List.length_take, LV.out] at this
      simp at this
      omega) Hb (by rw [List.length_take]; omega))
    have EV : Hid (∀ t, Str t (Sh.wD a n).ds → ∀ w', Below w.heap.size w w' → WnTold a n w (.returned (.tuple #[.agg #[.bool (Sh.wD a n).neg, .string t, .int .i64 (Sh.wD a n).e], .bool (Sh.wB a n)])) w') := fun t ht w' hB => ⟨t, rfl, ht, hB⟩
    obtain ⟨H, hH⟩ : ∃ H, dv ((Sh.dd (Sh.V a)).ds.take n) = H := ⟨_, rfl⟩
    rw [hH] at q1 q2 q3 Hb PU
    have H0 : 0 ≤ H := by rw [q1]; exact Int.le_trans (by omega) kr.1
    obtain ⟨g5, hg5⟩ : ∃ g5, Sh.gt5 ((Sh.dd (Sh.V a)).ds.drop n) = g5 := ⟨_, rfl⟩
    obtain ⟨c5, hc5⟩ : ∃ c5, decide ((Sh.dd (Sh.V a)).ds.drop n = [53]) = c5 := ⟨_, rfl⟩
    obtain ⟨od, hod⟩ : ∃ od, decide (H % 2 = 1) = od := ⟨_, rfl⟩
    have hup : Sh.upB (Sh.V a) (Sh.st (Sh.V a) n) = (g5 || (c5 && od)) := by
      rw [← q2, ← hg5, ← hc5, ← hod, Bool.eq_iff_iff]
      simp
    have S0p := Sh.st_pos (Sh.V a) n
    obtain ⟨Hn, hHn⟩ : ∃ Hn : Nat, H = (Hn : Int) := ⟨H.toNat, by omega⟩
    have Hn1 : Hn + 1 ≤ 100000000000000000 := by
      have := kr.2.1
      rw [← q1] at this
      have := Fx.p_le (show n ≤ 17 by omega)
      rw [show (10 : Int) ^ 17 = 100000000000000000 by decide] at this
      omega
    have plb := Sh.V_place ap hf
    have hple : Sh.pl (Sh.V a) = (Sh.dd (Sh.V a)).e + (Sh.ln (Sh.V a) : Int) := rfl
    have qb : -1075 ≤ (Sh.dd (Sh.V a)).e + (cut : Int) ∧ (Sh.dd (Sh.V a)).e + (cut : Int) ≤ 1000 := by omega
    have FMT : ∀ (u : Nat), u ≤ 100000000000000000 → Hid (∀ wx : World, Tab10 wx → Calls Tryz.prog 48 #[.int .u64 (u : Int), .int .i64 10] wx fun e w' => ∃ t, e = .returned (.string t) ∧ Hid (Str t (Sc.dl u)) ∧ Below wx.heap.size wx w') := fun u hu wx ht => zfmt_any u wx (by omega) ht
    have NOR : ∀ (u : Nat), u ≤ 100000000000000000 → Hid (∀ (wx : World) (t : ByteArray), Hid (Str t (Sc.dl u)) → Calls Tryz.prog 47 #[.string t, .int .i64 ((Sh.dd (Sh.V a)).e + (cut : Int))] wx fun r w' => ∃ t', r = .returned (.agg #[.bool (Sh.dd ((u : Int) * Sh.st (Sh.V a) n)).neg, .string t', .int .i64 (Sh.dd ((u : Int) * Sh.st (Sh.V a) n)).e]) ∧ Hid (Str t' (Sh.dd ((u : Int) * Sh.st (Sh.V a) n)).ds) ∧ Below wx.heap.size wx w') := by
      intro u hu wx t ht
      have d := dl_dv u
      have h := fun wy : World => znormal_any t (Sc.dl u) ((Sh.dd (Sh.V a)).e + (cut : Int)) wy ht.out d.1 d.2.1 qb.1 (by omega) (by have := dl_len (u := u) (by omega); omega)
      rw [d.2.2, ← st'] at h
      exact dec_open h wx
    have HLD : ∀ (u : Nat), u ≤ 100000000000000000 → Hid (∀ (wx : World) (t : ByteArray), Hid (Str t (Sh.dd ((u : Int) * Sh.st (Sh.V a) n)).ds) → Calls Tryz.prog 41 #[spanV (Sh.dd (Sh.V a)) (Sh.dd (Sh.A a)) (Sh.dd (Sh.B a)) s1 s2 s3 (decide (a % 2 = 0)), .agg #[.bool (Sh.dd ((u : Int) * Sh.st (Sh.V a) n)).neg, .string t, .int .i64 (Sh.dd ((u : Int) * Sh.st (Sh.V a) n)).e]] wx fun e w' => e = .returned (.bool (Sh.inB a ((u : Int) * Sh.st (Sh.V a) n))) ∧ Below wx.heap.size wx w') := by
      intro u hu wx t ht
      have U0 : 0 ≤ (u : Int) * Sh.st (Sh.V a) n := Int.mul_nonneg (by omega) (Int.le_of_lt S0p)
      have Ub : (u : Int) * Sh.st (Sh.V a) n < 10 ^ 1500 := by
        have h1 : (u : Int) * Sh.st (Sh.V a) n ≤ 100000000000000000 * Sh.st (Sh.V a) n := Int.mul_le_mul_of_nonneg_right (by omega) (Int.le_of_lt S0p)
        have h2 : Sh.st (Sh.V a) n ≤ 10 ^ 1383 := by rw [Sh.st_pl]; exact Fx.p_le (by omega)
        have h3 : (100000000000000000 : Int) * 10 ^ 1383 = 10 ^ 1400 := by rw [show (100000000000000000 : Int) = 10 ^ 17 by decide, ← Int.pow_add]
        have h4 := Int.mul_le_mul_of_nonneg_left h2 (show (0 : Int) ≤ 100000000000000000 by omega)
        rw [h3] at h4
        have h5 : (10 : Int) ^ 1400 < 10 ^ 1401 := by
          rw [Int.pow_succ 10 1400]
          have := Fx.p_pos 1400
          generalize (10 : Int) ^ 1400 = z at *
          omega
        exact Int.lt_of_le_of_lt (Int.le_trans h1 h4) (Int.lt_of_lt_of_le h5 (Fx.p_le (by omega)))
      have h := zholds_any (Sh.dd (Sh.V a)) (Sh.dd (Sh.A a)) (Sh.dd (Sh.B a)) (Sh.dd ((u : Int) * Sh.st (Sh.V a) n)) (decide (a % 2 = 0)) s1 s2 s3 t wx (Sh.nmA h0 hf) (Sh.nmB h0 hf) (Sh.bd_room U0 Ub) g2 g3 ht.out
      rw [Sh.hD_in h0 U0] at h
      exact h
    have F1 := FMT Hn (by omega)
    have F2 := FMT (Hn + 1) (by omega)
    have N1 := NOR Hn (by omega)
    have N2 := NOR (Hn + 1) (by omega)
    have tn1 : ((Hn : Int)).toNat = Hn := by omega
    have tn2 : ((Hn : Int) + 1).toNat = Hn + 1 := by omega
    rw [← tn1] at F1 N1
    rw [← tn2] at F2 N2
    rw [show (((Hn : Int).toNat : Nat) : Int) = (Hn : Int) by omega] at F1 N1
    rw [show ((((Hn : Int) + 1).toNat : Nat) : Int) = ((Hn + 1 : Nat) : Int) by omega] at F2 N2
    clear tn1 tn2
    have L1 := HLD Hn (by omega)
    have L2 := HLD (Hn + 1) (by omega)
    have WN : Sh.wn a n = if Sh.inB a (Sh.k1 (Sh.V a) (Sh.st (Sh.V a) n) * Sh.st (Sh.V a) n) = true then some (Sh.k1 (Sh.V a) (Sh.st (Sh.V a) n) * Sh.st (Sh.V a) n) else if Sh.inB a (Sh.k2 (Sh.V a) (Sh.st (Sh.V a) n) * Sh.st (Sh.V a) n) = true then some (Sh.k2 (Sh.V a) (Sh.st (Sh.V a) n) * Sh.st (Sh.V a) n) else none := by rw [Sh.wn, if_neg hl]
    have K1 : Sh.k1 (Sh.V a) (Sh.st (Sh.V a) n) = if (g5 || (c5 && od)) = true then ((Hn + 1 : Nat) : Int) else (Hn : Int) := by
      unfold Sh.k1
      rw [hup, ← q1, hHn]
      rfl
    have K2 : Sh.k2 (Sh.V a) (Sh.st (Sh.V a) n) = if (g5 || (c5 && od)) = true then (Hn : Int) else ((Hn + 1 : Nat) : Int) := by
      unfold Sh.k2
      rw [hup, ← q1, hHn]
      rfl
    have HR := hid (And.intro r1 a1)
    have TLS : Hid (Str (s1.extract n (n + cut)) ((Sh.dd (Sh.V a)).ds.drop n)) := by rw [← hcut]; exact e2
    have esz : s1.size = n + cut := by rw [hsz, hcut]
    have tne : (Sh.dd (Sh.V a)).ds.drop n ≠ [] := by
      intro c
      have := congrArg List.length c
      rw [List.length_drop, LV.out] at this
      simp at this
      omega
    have gg := gt53 TLS.out tne
    rw [hg5, hc5] at gg
    have GT : binOp .gtr 9 (.string (s1.extract n (n + cut))) (.string ⟨#[53]⟩) = pure (.bool g5) := by
      rw [← gg.1]
      simp [binOp, Op.stringOp]
    have EQ : ((s1.extract n (n + cut)).toList == [53]) = c5 := gg.2
    clear gg tne
    have OD : (((Hn : Int) % 2) == 1) = od := by
      rw [← hod, hHn]
      by_cases c : (Hn : Int) % 2 = 1 <;> simp [c]
    rw [hHn] at PU
    unfold spanV
    unfold spanV at L1 L2
    clear r1 a1 nmv FMT NOR HLD st' dgV loV e1 e2 g1 g2 g3 q1 q2 q3 kr vp Hb hup hg5 hc5 hod hHn H0 S0p plb hple TLS htab
    have cutp : 0 < cut := by omega
    generalize hcb : decide (a % 2 = 0) = cb at *
    generalize hDV : Sh.dd (Sh.V a) = DV at *
    generalize hDA : Sh.dd (Sh.A a) = DA at *
    generalize hDB : Sh.dd (Sh.B a) = DB at *
    clear hcb hDV hDA hDB
    go_enter Tryz.func28, Tryz.ntmps28
    go_wp2_with fail
    refine (PU.out _).mono ?_
    rintro e w1 ⟨rfl, B1⟩
    have HB1 := hid B1
    clear B1 PU
    have CUT : (n : Int) + (cut : Int) - (n : Int) = (cut : Int) := by omega
    have a2 := alloc_b (w.alloc (.cells #[.bool DV.neg, .string s1, .int .i64 DV.e, .bool DA.neg, .string s2, .int .i64 DA.e, .bool DB.neg, .string s3, .int .i64 DB.e, .bool cb] 51)) (.cells #[.bool false, .string ⟨#[]⟩, .int .i64 0] 25)
    have b2 := HR.out.2.trans (a2.mono HR.out.2.size)
    have rS := (HR.out.1.below a2 HR.out.1.lt).below HB1.out (RB.lt (HR.out.1.below a2 HR.out.1.lt))
    have rR : FR3 w1 (w.heap.size + 1) (.bool false) (.string ⟨#[]⟩) (.int .i64 0) := RB.below (b := w.heap.size + 1) (heap_new2 w _ _) HB1.out (RB.lt (b := w.heap.size + 1) (heap_new2 w _ _))
    have tT := tab10_below (tab10_below TB.out b2) HB1.out
    have bW := b2.trans (HB1.out.mono b2.size)
    obtain ⟨SS, KS, CS, PS, ZS, S1⟩ : ∃ SS : World → Prop, Hid (∀ wx w', SS wx → Below wx.heap.size wx w' → SS w') ∧ Hid (∀ wx, SS wx → ((wx.cell? ⟨w.heap.size, 0, none⟩ = some (.bool DV.neg) ∧ wx.cell? ⟨w.heap.size, 1, none⟩ = some (.string s1) ∧ wx.cell? ⟨w.heap.size, 2, none⟩ = some (.int .i64 DV.e) ∧ wx.cell? ⟨w.heap.size, 3, none⟩ = some (.bool DA.neg) ∧ wx.cell? ⟨w.heap.size, 4, none⟩ = some (.string s2) ∧ wx.cell? ⟨w.heap.size, 5, none⟩ = some (.int .i64 DA.e) ∧ wx.cell? ⟨w.heap.size, 6, none⟩ = some (.bool DB.neg) ∧ wx.cell? ⟨w.heap.size, 7, none⟩ = some (.string s3) ∧ wx.cell? ⟨w.heap.size, 8, none⟩ = some (.int .i64 DB.e) ∧ wx.cell? ⟨w.heap.size, 9, none⟩ = some (.bool cb)) ∧ (FR3 wx (w.heap.size + 1) (.bool false) (.string ⟨#[]⟩) (.int .i64 0)) ∧ Tab10 wx ∧ Below w.heap.size w wx)) ∧ Hid (∀ wx b u0 u1 u2, SS wx → w1.heap.size ≤ b → SS (((wx.setCell ⟨b, 0, none⟩ u0).setCell ⟨b, 1, none⟩ u1).setCell ⟨b, 2, none⟩ u2)) ∧ Hid (∀ wx, SS wx → w1.heap.size ≤ wx.heap.size) ∧ Hid (SS w1) :=
      ⟨fun wx => Below w1.heap.size w1 wx, fun _ _ h k => h.trans (k.mono h.size), fun wx h => ⟨(fun r => ⟨r.cell 0 _ rfl, r.cell 1 _ rfl, r.cell 2 _ rfl, r.cell 3 _ rfl, r.cell 4 _ rfl, r.cell 5 _ rfl, r.cell 6 _ rfl, r.cell 7 _ rfl, r.cell 8 _ rfl, r.cell 9 _ rfl⟩) (rS.below h rS.lt), rR.below h rR.lt, tab10_below tT h, bW.trans (h.mono bW.size)⟩, fun wx b u0 u1 u2 h hb => fset3_below h hb, fun _ h => h.size, Below.refl _ _⟩
    have c1 := (CS.out _ S1.out).1.2.1
    clear a2 b2 HR HB1 TB rS rR tT bW
    have IX0 : ∀ (x y : Int) (wx : World), (Instr.index 81 (.agg #[.int .u64 x, .int .u64 y]) (.int .i64 0)).run Tryz.prog wx = .ok (.int .u64 x) wx := fun _ _ _ => by kernel_rfl
    have IX1 : ∀ (x y : Int) (wx : World), (Instr.index 81 (.agg #[.int .u64 x, .int .u64 y]) (.int .i64 1)).run Tryz.prog wx = .ok (.int .u64 y) wx := fun _ _ _ => by kernel_rfl
    have qb1 := qb.1
    have qb2 := qb.2
    have WQ : IntKind.i64.wrap (DV.e + (cut : Int)) = DV.e + (cut : Int) := by rw [IntKind.wrap_i64]; omega
    have HC2 : (((Hn + 1 : Nat) : Int)) = (Hn : Int) + 1 := by omega
    rw [HC2] at F2 N2 L2 K1 K2
    obtain ⟨up, hup⟩ : ∃ up, (g5 || (c5 && od)) = up := ⟨_, rfl⟩
    rw [hup] at K1 K2
    obtain ⟨X, Y, DX, DY, JX, JY, REL, FX, NX, LX, FY, NY, LY, KK⟩ : ∃ (X Y : Int) (DX DY : Sc.D) (JX JY : Bool), Hid ((up = true ∧ X = (Hn : Int) + 1 ∧ Y = (Hn : Int)) ∨ (up = false ∧ X = (Hn : Int) ∧ Y = (Hn : Int) + 1))
        ∧ Hid (∀ wx : World, Tab10 wx → Calls Tryz.prog 48 #[.int .u64 X, .int .i64 10] wx fun e w' => ∃ t, e = .returned (.string t) ∧ Hid (Str t (Sc.dl X.toNat)) ∧ Below wx.heap.size wx w') ∧ Hid (∀ (wx : World) (t : ByteArray), Hid (Str t (Sc.dl X.toNat)) → Calls Tryz.prog 47 #[.string t, .int .i64 (DV.e + (cut : Int))] wx fun r w' => ∃ t', r = .returned (.agg #[.bool DX.neg, .string t', .int .i64 DX.e]) ∧ Hid (Str t' DX.ds) ∧ Below wx.heap.size wx w') ∧ Hid (∀ (wx : World) (t : ByteArray), Hid (Str t DX.ds) → Calls Tryz.prog 41 #[.agg #[.bool DV.neg, .string s1, .int .i64 DV.e, .bool DA.neg, .string s2, .int .i64 DA.e, .bool DB.neg, .string s3, .int .i64 DB.e, .bool cb], .agg #[.bool DX.neg, .string t, .int .i64 DX.e]] wx fun e w' => e = .returned (.bool JX) ∧ Below wx.heap.size wx w') ∧ Hid (∀ wx : World, Tab10 wx → Calls Tryz.prog 48 #[.int .u64 Y, .int .i64 10] wx fun e w' => ∃ t, e = .returned (.string t) ∧ Hid (Str t (Sc.dl Y.toNat)) ∧ Below wx.heap.size wx w') ∧ Hid (∀ (wx : World) (t : ByteArray), Hid (Str t (Sc.dl Y.toNat)) → Calls Tryz.prog 47 #[.string t, .int .i64 (DV.e + (cut : Int))] wx fun r w' => ∃ t', r = .returned (.agg #[.bool DY.neg, .string t', .int .i64 DY.e]) ∧ Hid (Str t' DY.ds) ∧ Below wx.heap.size wx w') ∧ Hid (∀ (wx : World) (t : ByteArray), Hid (Str t DY.ds) → Calls Tryz.prog 41 #[.agg #[.bool DV.neg, .string s1, .int .i64 DV.e, .bool DA.neg, .string s2, .int .i64 DA.e, .bool DB.neg, .string s3, .int .i64 DB.e, .bool cb], .agg #[.bool DY.neg, .string t, .int .i64 DY.e]] wx fun e w' => e = .returned (.bool JY) ∧ Below wx.heap.size wx w')
        ∧ Hid ((JX = true → ∀ t, Hid (Str t DX.ds) → ∀ w', Below w.heap.size w w' → WnTold a n w (.returned (.tuple #[.agg #[.bool DX.neg, .string t, .int .i64 DX.e], .bool true])) w') ∧ (JX = false → JY = true → ∀ t, Hid (Str t DY.ds) → ∀ w', Below w.heap.size w w' → WnTold a n w (.returned (.tuple #[.agg #[.bool DY.neg, .string t, .int .i64 DY.e], .bool true])) w') ∧ (JX = false → JY = false → ∀ w', Below w.heap.size w w' → WnTold a n w (.returned (.tuple #[.agg #[.bool false, .string ⟨#[]⟩, .int .i64 0], .bool false])) w')) := by
      have TOLD : ∀ U, Sh.wn a n = some U → ∀ t, Hid (Str t (Sh.dd U).ds) → ∀ w', Below w.heap.size w w' → WnTold a n w (.returned (.tuple #[.agg #[.bool (Sh.dd U).neg, .string t, .int .i64 (Sh.dd U).e], .bool true])) w' := by
        intro U e t ht w' hB
        have e1 : Sh.wD a n = Sh.dd U := by rw [Sh.wD, e]
        have e2 : Sh.wB a n = true := by rw [Sh.wB, e]; rfl
        exact ⟨t, by rw [e1, e2], by rw [e1]; exact ht.out, hB⟩
      have NONE : Sh.wn a n = none → ∀ w', Below w.heap.size w w' → WnTold a n w (.returned (.tuple #[.agg #[.bool false, .string ⟨#[]⟩, .int .i64 0], .bool false])) w' := by
        intro e w' hB
        have e1 : Sh.wD a n = ⟨false, [], 0⟩ := by rw [Sh.wD, e]
        have e2 : Sh.wB a n = false := by rw [Sh.wB, e]; rfl
        exact ⟨⟨#[]⟩, by rw [e1, e2], by rw [e1]; rfl, hB⟩
      cases up
      · rw [if_neg Bool.false_ne_true] at K1 K2
        rw [K1, K2] at WN
        refine ⟨_, _, _, _, _, _, .inr ⟨rfl, rfl, rfl⟩, F1, N1, L1, F2, N2, L2, fun j => TOLD _ (by rw [WN, if_pos j]), fun j k => TOLD _ (by rw [WN, if_neg (by rw [j]; decide), if_pos k]), fun j k => NONE (by rw [WN, if_neg (by rw [j]; decide), if_neg (by rw [k]; decide)])⟩
      · rw [if_pos rfl] at K1 K2
        rw [K1, K2] at WN
        refine ⟨_, _, _, _, _, _, .inl ⟨rfl, rfl, rfl⟩, F2, N2, L2, F1, N1, L1, fun j => TOLD _ (by rw [WN, if_pos j]), fun j k => TOLD _ (by rw [WN, if_neg (by rw [j]; decide), if_pos k]), fun j k => NONE (by rw [WN, if_neg (by rw [j]; decide), if_neg (by rw [k]; decide)])⟩
    clear HC2 qb F1 F2 N1 N2 L1 L2 K1 K2 WN EV hl hl2 ap h0 hf lnb hcut hsz LV
    go_upto_region 7 with fail
    go_cut [52] from 42 to 51 (fun b wx => b = .bool up ∧ wx = w1)
    case first =>
      subst hup
      cases g5
      · cases c5
        · go_wp2_with fail
          go_meet
          exact ⟨rfl, rfl⟩
        · go_wp2_with fail
          go_meet
          exact ⟨by simp, rfl⟩
      · go_wp2_with fail
        go_meet
        exact ⟨rfl, rfl⟩
    obtain ⟨h52, hwc⟩ := hcut
    subst h52
    subst hwc
    go_upto_if 52 with fail
    go_cut [9, 10] from 53 to 54 (fun x y wx => x = .int .u64 X ∧ y = .int .u64 Y ∧ wx = wc)
    case first =>
      rcases REL.out with ⟨r1, r2, r3⟩ | ⟨r1, r2, r3⟩
      · subst r1; subst r2; subst r3
        go_wp2_with fail
        go_meet
        exact ⟨rfl, rfl, rfl⟩
      · subst r1; subst r2; subst r3
        go_wp2_with fail
        go_meet
        exact ⟨rfl, rfl, rfl⟩
    obtain ⟨h9, h10, hw⟩ := hcut
    subst h9
    subst h10
    subst hw
    have TQ : Hid (∀ wx : World, SS wx → Tab10 wx) := fun wx h => (CS.out wx h).2.2.1
    have FT : Hid (∀ wx : World, SS wx → wx.cell? ⟨w.heap.size, 2, none⟩ = some (.int .i64 DV.e)) := fun wx h => (CS.out wx h).1.2.2.1
    have KA : Hid (∀ (wx : World), SS wx → SS (wx.alloc (.cells #[.bool false, .string ⟨#[]⟩, .int .i64 0] 25))) := fun wx h => KS.out _ _ h (alloc_b _ _)
    have RD : Hid (∀ (wx w' : World), Below ((wx.alloc (.cells #[.bool false, .string ⟨#[]⟩, .int .i64 0] 25)).drew).heap.size (wx.alloc (.cells #[.bool false, .string ⟨#[]⟩, .int .i64 0] 25)).drew w' → FR3 w' wx.heap.size (.bool false) (.string ⟨#[]⟩) (.int .i64 0)) := fun wx w' h => FR3.below (w := (wx.alloc (.cells #[.bool false, .string ⟨#[]⟩, .int .i64 0] 25)).drew) (FR3.new wx _ _ _) h (FR3.new wx _ _ _).lt
    have RN : Hid (∀ (wx w' : World), Below (wx.alloc (.cells #[.bool false, .string ⟨#[]⟩, .int .i64 0] 25)).heap.size (wx.alloc (.cells #[.bool false, .string ⟨#[]⟩, .int .i64 0] 25)) w' → FR3 w' wx.heap.size (.bool false) (.string ⟨#[]⟩) (.int .i64 0)) := fun wx w' h => (FR3.new wx _ _ _).below h (FR3.new wx _ _ _).lt
    have RC : Hid (∀ (wx w' : World) (b : Nat), Hid (FR3 wx b (.bool false) (.string ⟨#[]⟩) (.int .i64 0)) → Below wx.heap.size wx w' → FR3 w' b (.bool false) (.string ⟨#[]⟩) (.int .i64 0)) := fun wx w' b h k => h.out.below k h.out.lt
    clear c1 GT EQ OD REL hup g5 c5 od
    go_wp2_with fail
    refine wp_loop_rounds 3 ?_
    rw [rounds_succ]
    go_upto_region 12 with fail
    go_cut [14] from 61 to 68 (fun p wx => ∃ b t, p = .pointer (some ⟨b, 0, none⟩) ∧ Hid (SS wx ∧ RB wx b 25 #[.bool DX.neg, .string t, .int .i64 DX.e] ∧ Hid (Str t DX.ds)))
    case first =>
      have T0 := hid (KS.out _ _ S1.out (drew_nil _))
      have TA := hid (KS.out _ _ (KA.out _ S1.out) (drew_nil _))
      have d2 := FT.out _ T0.out
      have d1 := FT.out _ S1.out
      have dA := FT.out _ TA.out
      go_region_with (first
        | (go_at_call 48; (first
          | (with_reducible refine (FX.out _ (TQ.out _ T0.out)).mono ?_; rintro e w5 ⟨t5, rfl, HT5, hB⟩; have T1 := hid (KS.out _ _ T0.out hB); have d5 := FT.out _ T1.out; have d5a := FT.out _ (KA.out _ T1.out); clear hB)
          | (with_reducible refine (FX.out _ (TQ.out _ TA.out)).mono ?_; rintro e w5 ⟨t5, rfl, HT5, hB⟩; have T1 := hid (KS.out _ _ TA.out hB); have d5 := FT.out _ T1.out; have d5a := FT.out _ (KA.out _ T1.out); have RR := hid (RD.out _ _ hB); clear hB)))
        | (go_at_call 47; with_reducible refine (NX.out _ _ HT5).mono ?_; rintro e w6 ⟨t6, rfl, HT6, hB⟩; (first
          | (have R6 := hid (RC.out _ _ _ RR hB); have T2 := hid (KS.out _ _ T1.out hB); obtain ⟨⟨x0, x1, x2⟩, y0, y1, y2⟩ := R6.out.cells; clear hB)
          | (have T2 := hid (KS.out _ _ T1.out hB); clear hB)
          | (have R6 := hid (RN.out _ _ hB); have T2 := hid (KS.out _ _ (KA.out _ T1.out) hB); obtain ⟨⟨x0, x1, x2⟩, y0, y1, y2⟩ := R6.out.cells; clear hB))))
      all_goals
        go_wp2_with fail
        go_meet
        first
          | exact ⟨_, t6, rfl, KS.out _ _ T2.out (alloc_b _ _), RB.new w6 _ _, HT6⟩
          | exact ⟨_, t6, rfl, PS.out _ _ _ _ _ T2.out (ZS.out _ T1.out), R6.out.put _ _ _, HT6⟩
          | exact ⟨_, t6, rfl, PS.out _ _ _ _ _ T2.out (ZS.out _ S1.out), R6.out.put _ _ _, HT6⟩
    obtain ⟨b, t, hp, HC⟩ := hcut
    subst hp
    obtain ⟨z0, z1, z2, z3, z4, z5, z6, z7, z8, z9⟩ := (CS.out _ HC.out.1).1
    have x0 := HC.out.2.1.cell 0 _ rfl
    have x1 := HC.out.2.1.cell 1 _ rfl
    have x2 := HC.out.2.1.cell 2 _ rfl
    go_wp2_with fail
    refine (LX.out _ _ HC.out.2.2).mono ?_
    rintro e w7 ⟨rfl, hB⟩
    have S7 := hid (KS.out _ _ HC.out.1 hB)
    have R7 := hid (HC.out.2.1.below hB (RB.lt HC.out.2.1))
    have HT7 := HC.out.2.2
    clear hB HC z0 z1 z2 z3 z4 z5 z6 z7 z8 z9 x0 x1 x2
    cases JX
    · go_wp2_with fail
      rw [rounds_succ]
      have S8 := S7
      clear S7 R7 HT7
      go_upto_region 12 with fail
      go_cut [14] from 61 to 68 (fun p wx => ∃ b t, p = .pointer (some ⟨b, 0, none⟩) ∧ Hid (SS wx ∧ RB wx b 25 #[.bool DY.neg, .string t, .int .i64 DY.e] ∧ Hid (Str t DY.ds)))
      case first =>
        have T0 := hid (KS.out _ _ S8.out (drew_nil _))
        have TA := hid (KS.out _ _ (KA.out _ S8.out) (drew_nil _))
        have d2 := FT.out _ T0.out
        have d1 := FT.out _ S8.out
        have dA := FT.out _ TA.out
        go_region_with (first
          | (go_at_call 48; (first
            | (with_reducible refine (FY.out _ (TQ.out _ T0.out)).mono ?_; rintro e w5 ⟨t5, rfl, HT5, hB⟩; have T1 := hid (KS.out _ _ T0.out hB); have d5 := FT.out _ T1.out; have d5a := FT.out _ (KA.out _ T1.out); clear hB)
            | (with_reducible refine (FY.out _ (TQ.out _ TA.out)).mono ?_; rintro e w5 ⟨t5, rfl, HT5, hB⟩; have T1 := hid (KS.out _ _ TA.out hB); have d5 := FT.out _ T1.out; have d5a := FT.out _ (KA.out _ T1.out); have RR := hid (RD.out _ _ hB); clear hB)))
          | (go_at_call 47; with_reducible refine (NY.out _ _ HT5).mono ?_; rintro e w6 ⟨t6, rfl, HT6, hB⟩; (first
            | (have R6 := hid (RC.out _ _ _ RR hB); have T2 := hid (KS.out _ _ T1.out hB); obtain ⟨⟨x0, x1, x2⟩, y0, y1, y2⟩ := R6.out.cells; clear hB)
            | (have T2 := hid (KS.out _ _ T1.out hB); clear hB)
            | (have R6 := hid (RN.out _ _ hB); have T2 := hid (KS.out _ _ (KA.out _ T1.out) hB); obtain ⟨⟨x0, x1, x2⟩, y0, y1, y2⟩ := R6.out.cells; clear hB))))
        all_goals
          go_wp2_with fail
          go_meet
          first
            | exact ⟨_, t6, rfl, KS.out _ _ T2.out (alloc_b _ _), RB.new w6 _ _, HT6⟩
            | exact ⟨_, t6, rfl, PS.out _ _ _ _ _ T2.out (ZS.out _ T1.out), R6.out.put _ _ _, HT6⟩
            | exact ⟨_, t6, rfl, PS.out _ _ _ _ _ T2.out (ZS.out _ S8.out), R6.out.put _ _ _, HT6⟩
      obtain ⟨b, t, hp, HC⟩ := hcut
      subst hp
      obtain ⟨z0, z1, z2, z3, z4, z5, z6, z7, z8, z9⟩ := (CS.out _ HC.out.1).1
      have x0 := HC.out.2.1.cell 0 _ rfl
      have x1 := HC.out.2.1.cell 1 _ rfl
      have x2 := HC.out.2.1.cell 2 _ rfl
      go_wp2_with fail
      refine (LY.out _ _ HC.out.2.2).mono ?_
      rintro e w7 ⟨rfl, hB⟩
      have S7 := hid (KS.out _ _ HC.out.1 hB)
      have R7 := hid (HC.out.2.1.below hB (RB.lt HC.out.2.1))
      have HT7 := HC.out.2.2
      clear hB HC z0 z1 z2 z3 z4 z5 z6 z7 z8 z9 x0 x1 x2
      cases JY
      · go_wp2_with fail
        rw [rounds_succ]
        obtain ⟨-, fr, -, hbw⟩ := CS.out _ S7.out
        have FR := hid fr
        have BW := hid hbw
        obtain ⟨⟨r0, r1, r2⟩, s0, s1, s2⟩ := fr.cells
        clear fr hbw
        go_wp2_with fail
        (try simp only [Exit.inBlock, Exit.then])
        refine bodyPost_ret (fresults_row_tmp rfl _ _ (w.heap.size + 1) 25 _ (0, 0) _ rfl (FR.out.put _ _ _) Tryz.underlying25 rfl (by kernel_rfl)) rfl ?_
        exact KK.out.2.2 (by trivial) (by trivial) _ (fset3_below BW.out (by omega))
      · have x0 := R7.out.cell 0 _ rfl
        have x1 := R7.out.cell 1 _ rfl
        have x2 := R7.out.cell 2 _ rfl
        obtain ⟨-, fr, -, hbw⟩ := CS.out _ S7.out
        have FR := hid fr
        have BW := hid hbw
        obtain ⟨⟨r0, r1, r2⟩, s0, s1, s2⟩ := fr.cells
        clear fr hbw
        go_wp2_with fail
        (try simp only [Exit.inBlock, Exit.then])
        refine bodyPost_ret (fresults_row_tmp rfl _ _ (w.heap.size + 1) 25 _ (0, 0) _ rfl (FR.out.put _ _ _) Tryz.underlying25 rfl (by kernel_rfl)) rfl ?_
        exact KK.out.2.1 (by trivial) (by trivial) _ HT7 _ (fset3_below BW.out (by omega))
    · have x0 := R7.out.cell 0 _ rfl
      have x1 := R7.out.cell 1 _ rfl
      have x2 := R7.out.cell 2 _ rfl
      obtain ⟨-, fr, -, hbw⟩ := CS.out _ S7.out
      have FR := hid fr
      have BW := hid hbw
      obtain ⟨⟨r0, r1, r2⟩, s0, s1, s2⟩ := fr.cells
      clear fr hbw
      go_wp2_with fail
      (try simp only [Exit.inBlock, Exit.then])
      refine bodyPost_ret (fresults_row_tmp rfl _ _ (w.heap.size + 1) 25 _ (0, 0) _ rfl (FR.out.put _ _ _) Tryz.underlying25 rfl (by kernel_rfl)) rfl ?_
      exact KK.out.1 (by trivial) _ HT7 _ (fset3_below BW.out (by omega))
end Go.Proofs.YtjkefcikepnbpaaGreatDoor

namespace Go.Proofs.YtjkefcikepnbpaaGreatDoor
open Go Go.RowKit Go.Deep

namespace Sh
theorem fnt_iff {d : Int} : Ie.fnt d = decide (d % 9223372036854775808 < 9218868437227405312) := by
  unfold Ie.fnt Ie.cls Ie.fld
  rw [Bool.eq_iff_iff, decide_eq_true_iff, decide_eq_true_iff]
  split
  · split <;> omega
  · split
    · split <;> omega
    · omega
/-- What Digits tells. -/
noncomputable def zD (d : Int) : Sc.D := if Ie.fnt d = true then ⟨ng d, (dd (dgt (d % 9223372036854775808))).ds, (dd (dgt (d % 9223372036854775808))).e⟩ else ⟨false, [], 0⟩
def zR (d : Int) : Int := if Ie.fnt d = true then 0 else 5
end Sh

set_option maxRecDepth 100000 in
theorem zclo_any (a : Int) (i bs : Nat) (s1 s2 s3 : ByteArray) (w : World) (h0 : 0 ≤ a) (hf : a < 9218868437227405312) (hi : i < 16) (htab : Tab10 w)
    (g1 : Str s1 (Sh.dd (Sh.V a)).ds) (g2 : Str s2 (Sh.dd (Sh.A a)).ds) (g3 : Str s3 (Sh.dd (Sh.B a)).ds)
    (hS : Ten w bs (.bool (Sh.dd (Sh.V a)).neg) (.string s1) (.int .i64 (Sh.dd (Sh.V a)).e) (.bool (Sh.dd (Sh.A a)).neg) (.string s2) (.int .i64 (Sh.dd (Sh.A a)).e) (.bool (Sh.dd (Sh.B a)).neg) (.string s3) (.int .i64 (Sh.dd (Sh.B a)).e) (.bool (decide (a % 2 = 0)))) :
    Calls Tryz.prog 27 (#[.int .i64 i] ++ #[.pointer (some ⟨bs, 0, none⟩)]) w fun e w' => e = .returned (.bool (Sh.wB a (i + 1))) ∧ Below w.heap.size w w' := by
  have W := hid (zwithin_any a (i + 1) s1 s2 s3 w h0 hf (by omega) (by omega) htab g1 g2 g3)
  obtain ⟨⟨c0, c1, c2⟩, ⟨c3, c4, c5⟩, ⟨c6, c7, c8⟩, c9⟩ := hS.cells
  rw [show (((i + 1 : Nat)) : Int) = (i : Int) + 1 by omega] at W
  unfold spanV at W
  have hi2 : (i : Int) < 16 := by omega
  clear hS g1 g2 g3 htab h0 hf
  go_enter Tryz.func27, Tryz.ntmps27
  go_wp2_with fail
  refine W.out.mono ?_
  rintro e w1 ⟨t, rfl, -, hB⟩
  have K := hid (hB.trans ((alloc_b w1 (.cells #[.bool (Sh.wD a (i + 1)).neg, .string t, .int .i64 (Sh.wD a (i + 1)).e] 25)).mono hB.size))
  clear hB W
  go_wp2_with fail
  go_ret
  exact ⟨rfl, K.out⟩

def DigTold (d : Int) (w : World) (e : Ending) (w' : World) : Prop :=
  ∃ t, e = .returned (.tuple #[.agg #[.bool (Sh.zD d).neg, .string t, .int .i64 (Sh.zD d).e], .int .i64 (Sh.zR d)]) ∧ Hid (Str t (Sh.zD d).ds) ∧ Below w.heap.size w w'

set_option maxRecDepth 100000 in
set_option maxHeartbeats 4000000 in
theorem zdig_any (d : Int) (w : World) (h0 : 0 ≤ d) (h1 : d < 18446744073709551616) (htab : Tab10 w) :
    Calls Tryz.prog 7 #[.int .u64 d] w fun e w' => DigTold d w e w' := by
  have FN := hid (fun wx : World => zfinite_any d wx h0 h1)
  have NG := hid (fun wx : World => znegative_any d wx h0 h1)
  have Z := FR3.new w (.bool false) (.string ⟨#[]⟩) (.int .i64 0)
  have ZB := alloc_b w (.cells #[.bool false, .string ⟨#[]⟩, .int .i64 0] 25)
  by_cases hf : Ie.fnt d = true
  · have hfin : d % 9223372036854775808 < 9218868437227405312 := by rw [Sh.fnt_iff] at hf; exact of_decide_eq_true hf
    obtain ⟨a, ha⟩ : ∃ a, d % 9223372036854775808 = a := ⟨_, rfl⟩
    have a0 : 0 ≤ a := by omega
    have SP := hid (fun wx : World => zspan_any d wx h0 h1 hfin)
    have G : Hid (∀ (w' : World) (t : ByteArray), Str t (Sh.dd (Sh.dgt a)).ds → Below w.heap.size w w' → DigTold d w (.returned (.tuple #[.agg #[.bool (Sh.ng d), .string t, .int .i64 (Sh.dd (Sh.dgt a)).e], .int .i64 0])) w') := by
      intro w' t ht hB
      have e : Sh.zD d = ⟨Sh.ng d, (Sh.dd (Sh.dgt a)).ds, (Sh.dd (Sh.dgt a)).e⟩ := by rw [Sh.zD, if_pos hf, ha]
      exact ⟨t, by rw [e, Sh.zR, if_pos hf], by rw [e]; exact ht, hB⟩
    rw [ha] at SP hfin
    rw [hf] at FN
    have HZ := hid (And.intro Z ZB)
    have TB := hid (tab10_below htab ZB)
    clear Z ZB htab hf ha h0 h1
    go_enter Tryz.func7, Tryz.ntmps7
    go_wp2_with fail
    refine (FN.out _).mono ?_
    rintro e wz ⟨rfl, hz⟩
    subst hz
    go_wp2_with fail
    refine (SP.out _).mono ?_
    rintro e w1 ⟨v, rfl, ⟨s1, s2, s3, hv, g1, g2, g3⟩, B1⟩
    unfold spanV at hv
    subst hv
    have aL := alloc_b w1 (.cells #[.bool (Sh.dd (Sh.V a)).neg, .string s1, .int .i64 (Sh.dd (Sh.V a)).e, .bool (Sh.dd (Sh.A a)).neg, .string s2, .int .i64 (Sh.dd (Sh.A a)).e, .bool (Sh.dd (Sh.B a)).neg, .string s3, .int .i64 (Sh.dd (Sh.B a)).e, .bool (decide (a % 2 = 0))] 51)
    have HB1 := hid (B1.trans (aL.mono B1.size))
    have TN : Hid (Ten (w1.alloc (.cells #[.bool (Sh.dd (Sh.V a)).neg, .string s1, .int .i64 (Sh.dd (Sh.V a)).e, .bool (Sh.dd (Sh.A a)).neg, .string s2, .int .i64 (Sh.dd (Sh.A a)).e, .bool (Sh.dd (Sh.B a)).neg, .string s3, .int .i64 (Sh.dd (Sh.B a)).e, .bool (decide (a % 2 = 0))] 51)) w1.heap.size (.bool (Sh.dd (Sh.V a)).neg) (.string s1) (.int .i64 (Sh.dd (Sh.V a)).e) (.bool (Sh.dd (Sh.A a)).neg) (.string s2) (.int .i64 (Sh.dd (Sh.A a)).e) (.bool (Sh.dd (Sh.B a)).neg) (.string s3) (.int .i64 (Sh.dd (Sh.B a)).e) (.bool (decide (a % 2 = 0)))) := RB.new w1 51 _
    have T1 := hid (tab10_below TB.out HB1.out)
    have SE := hid (search_any 27 #[.pointer (some ⟨w1.heap.size, 0, none⟩)] (fun i => Sh.wB a (i + 1)) _ (enters_of Tryz.func27 (by kernel_rfl) rfl) (fun wx i hB hi => zclo_any a i w1.heap.size s1 s2 s3 wx a0 hfin hi (tab10_below T1.out hB) g1 g2 g3 (RB.below TN.out hB (RB.lt TN.out))))
    have GS := hid (And.intro g1 (And.intro g2 g3))
    clear B1 aL g1 g2 g3 SP FN TB
    go_wp2_with fail
    refine SE.out.mono ?_
    rintro e w2 ⟨f, rfl, hf16, hf1, hf2, B2⟩
    have fn0 : f = Sh.n0 a := Sh.isn_of a0 hf16 (fun h => by have q : Sh.wB a (f - 1 + 1) = false := hf1 h; rw [show f - 1 + 1 = f by omega] at q; exact q) hf2
    have T2 := hid (tab10_below T1.out B2)
    have TN2 := RB.below TN.out B2 (RB.lt TN.out)
    have HB2 := hid (HB1.out.trans (B2.mono HB1.out.size))
    obtain ⟨⟨c0, c1, c2⟩, ⟨c3, c4, c5⟩, ⟨c6, c7, c8⟩, c9⟩ := Ten.cells TN2
    have W := zwithin_any a (f + 1) s1 s2 s3 w2 a0 hfin (by omega) (by omega) T2.out GS.out.1 GS.out.2.1 GS.out.2.2
    have ED : Sh.wD a (f + 1) = Sh.dd (Sh.dgt a) := by rw [Sh.wD, fn0, Sh.wn_dgt a0]
    unfold WnTold at W
    rw [ED] at W
    rw [show (((f + 1 : Nat)) : Int) = (f : Int) + 1 by omega] at W
    unfold spanV at W
    have HW := hid W
    have f16 : (f : Int) ≤ 16 := by omega
    generalize Sh.wB a (f + 1) = ok at *
    generalize hDD : Sh.dd (Sh.dgt a) = DD at *
    clear W ED TN2 SE B2 hf1 hf2 hf16 fn0 GS TN T1 T2 HB1 hDD
    go_wp2_with fail
    refine HW.out.mono ?_
    rintro e w3 ⟨t, rfl, ht, B3⟩
    have RZ3 := HZ.out.1.below (HB2.out.trans (B3.mono HB2.out.size)) HZ.out.1.lt
    have BW3 := HZ.out.2.trans ((HB2.out.trans (B3.mono HB2.out.size)).mono HZ.out.2.size)
    have RZA := hid (RZ3.below (alloc_b w3 (.cells #[.bool (Sh.ng d), .string t, .int .i64 DD.e] 25)) RZ3.lt)
    have RZB := RZ3.below (alloc_b w3 (.cells #[.bool DD.neg, .string t, .int .i64 DD.e] 25)) RZ3.lt
    have K := hid (G.out _ t ht (fset3_below (u0 := .bool (Sh.ng d)) (u1 := .string t) (u2 := .int .i64 DD.e) (b := w.heap.size) (BW3.trans ((alloc_b w3 (.cells #[.bool (Sh.ng d), .string t, .int .i64 DD.e] 25)).mono BW3.size)) (Nat.le_refl _)))
    obtain ⟨⟨a0', a1, a2⟩, a3, a4, a5⟩ := RZA.out.cells
    obtain ⟨⟨b0, b1, b2⟩, b3, b4, b5⟩ := RZB.cells
    clear HW B3 HB2 c0 c1 c2 c3 c4 c5 c6 c7 c8 c9 ht RZ3 BW3 RZB
    generalize Sh.ng d = ngd at *
    go_wp2_with fail
    refine (NG.out _).mono ?_
    rintro e wz ⟨rfl, hz⟩
    subst hz
    go_wp2_with fail
    (try simp only [Exit.inBlock, Exit.then])
    refine bodyPost_ret (fresults_row_tmp rfl _ _ w.heap.size 25 _ (0, 0) _ rfl (RZA.out.put _ _ _) Tryz.underlying25 rfl (by kernel_rfl)) rfl ?_
    exact K.out
  · have hf' : Ie.fnt d = false := by simpa using hf
    have G : Hid (∀ (w' : World), Below w.heap.size w w' → DigTold d w (.returned (.tuple #[.agg #[.bool false, .string ⟨#[]⟩, .int .i64 0], .int .i64 5])) w') := by
      intro w' hB
      have e : Sh.zD d = ⟨false, [], 0⟩ := by rw [Sh.zD, if_neg hf]
      exact ⟨⟨#[]⟩, by rw [e, Sh.zR, if_neg hf], by rw [e]; rfl, hB⟩
    rw [hf'] at FN
    have HZ := hid (And.intro Z ZB)
    have K := hid (G.out _ ZB)
    obtain ⟨⟨c0, c1, c2⟩, f0, f1, f2⟩ := Z.cells
    clear Z ZB htab hf hf' G
    go_enter Tryz.func7, Tryz.ntmps7
    go_wp2_with fail
    refine (FN.out _).mono ?_
    rintro e wz ⟨rfl, hz⟩
    replace hz := hz.symm
    subst hz
    go_wp2_with fail
    (try simp only [Exit.inBlock, Exit.then])
    refine bodyPost_ret (fresults_row_tmp rfl _ _ w.heap.size 25 _ (0, 0) _ rfl HZ.out.1 Tryz.underlying25 rfl (by kernel_rfl)) rfl ?_
    exact K.out
end Go.Proofs.YtjkefcikepnbpaaGreatDoor

namespace Go.Proofs.YtjkefcikepnbpaaGreatDoor
open Go Go.RowKit Go.Deep

theorem results_cell_tmp_tmp {fn : Func} {p u v : Tmp} {ty : TypeId} (h : fn.results = #[.cell p ty, .tmp u, .tmp v]) (tmps : Array Value) (P : Program) (w : World) :
    (results fn tmps).run P w =
      ((asAddr (tmps.getD p undef)).run P w).andThen fun a w₁ => ((loadVar ty a).run P w₁).andThen fun x w₂ => .ok (.tuple #[x, tmps.getD u undef, tmps.getD v undef]) w₂ := by
  simp only [results, h]
  simp [Sem.run_bind, Result.andThen]
theorem results_row_tmp2 {P : Program} {fn : Func} {p u v : Tmp} {ty : TypeId} (h : fn.results = #[.cell p ty, .tmp u, .tmp v]) (tmps : Array Value) (w : World) (g : Nat) (t : TypeId) (cs : Array Value) (fr : Nat × Nat) (d : TypeDesc)
    (hp : tmps.getD p undef = .pointer (some ⟨g, 0, none⟩)) (hg : w.heap[g]? = some (.cells cs t fr))
    (hu : P.underlying ty = some d) (hd : (match d with | .struct _ | .array _ _ => true | _ => false) = true) (hi : (P.info? ty).map (·.size) = some cs.size) :
    (results fn tmps).run P w = .ok (.tuple #[.agg cs, tmps.getD u undef, tmps.getD v undef]) w := by
  rw [results_cell_tmp_tmp h, hp]
  simp [asAddr, run_loadVar_row w g t ty cs fr d hg hu hd hi, Result.andThen]

def WiTold (d : Int) (n : Nat) (w : World) (e : Ending) (w' : World) : Prop :=
  ∃ t, e = .returned (.tuple #[.agg #[.bool (Sh.wB (d % 9223372036854775808) n && Sh.ng d), .string t, .int .i64 (Sh.wD (d % 9223372036854775808) n).e], .bool (Sh.wB (d % 9223372036854775808) n), .int .i64 0]) ∧ Hid (Str t (Sh.wD (d % 9223372036854775808) n).ds) ∧ Below w.heap.size w w'

set_option maxRecDepth 100000 in
set_option maxHeartbeats 4000000 in
theorem zwi_any (d : Int) (n : Nat) (w : World) (h0 : 0 ≤ d) (h1 : d < 18446744073709551616) (hf : d % 9223372036854775808 < 9218868437227405312) (n1 : 1 ≤ n) (n2 : n ≤ 17) (htab : Tab10 w) :
    Calls Tryz.prog 13 #[.int .u64 d, .int .i64 n] w fun e w' => WiTold d n w e w' := by
  have FN := hid (fun wx : World => zfinite_any d wx h0 h1)
  have NG := hid (fun wx : World => znegative_any d wx h0 h1)
  have Z := FR3.new w (.bool false) (.string ⟨#[]⟩) (.int .i64 0)
  have ZB := alloc_b w (.cells #[.bool false, .string ⟨#[]⟩, .int .i64 0] 25)
  have SP := hid (fun wx : World => zspan_any d wx h0 h1 hf)
  rw [Sh.fnt_iff, decide_eq_true hf] at FN
  have G : Hid (∀ (w' : World) (t : ByteArray), Hid (Str t (Sh.wD (d % 9223372036854775808) n).ds) → Below w.heap.size w w' → WiTold d n w (.returned (.tuple #[.agg #[.bool (Sh.wB (d % 9223372036854775808) n && Sh.ng d), .string t, .int .i64 (Sh.wD (d % 9223372036854775808) n).e], .bool (Sh.wB (d % 9223372036854775808) n), .int .i64 0])) w') := fun w' t ht hB => ⟨t, rfl, ht, hB⟩
  obtain ⟨a, ha⟩ : ∃ a, d % 9223372036854775808 = a := ⟨_, rfl⟩
  have a0 : 0 ≤ a := by omega
  rw [ha] at SP hf G
  have HZ := hid (And.intro Z ZB)
  have TB := hid (tab10_below htab ZB)
  have n1' : ¬ (n : Int) < 1 := by omega
  have n2' : (n : Int) ≤ 17 := by omega
  clear Z ZB htab ha h0 h1
  go_enter Tryz.func13, Tryz.ntmps13
  go_wp2_with fail
  refine (FN.out _).mono ?_
  rintro e wz ⟨rfl, hz⟩
  subst hz
  go_wp2_with fail
  refine (SP.out _).mono ?_
  rintro e w1 ⟨v, rfl, ⟨s1, s2, s3, hv, g1, g2, g3⟩, B1⟩
  subst hv
  have W := zwithin_any a n s1 s2 s3 w1 a0 hf n1 n2 (tab10_below TB.out B1) g1 g2 g3
  have HB2 := hid B1
  have HW := hid W
  unfold WnTold at HW
  generalize Sh.wB a n = ok at *
  generalize Sh.wD a n = DD at *
  clear W B1 SP FN g1 g2 g3 TB
  go_wp2_with fail
  refine HW.out.mono ?_
  rintro e w3 ⟨t, rfl, ht, B3⟩
  have RZ3 := HZ.out.1.below (HB2.out.trans (B3.mono HB2.out.size)) HZ.out.1.lt
  have BW3 := HZ.out.2.trans ((HB2.out.trans (B3.mono HB2.out.size)).mono HZ.out.2.size)
  have RZA := hid (RZ3.below (alloc_b w3 (.cells #[.bool (ok && Sh.ng d), .string t, .int .i64 DD.e] 25)) RZ3.lt)
  have RZB := RZ3.below (alloc_b w3 (.cells #[.bool DD.neg, .string t, .int .i64 DD.e] 25)) RZ3.lt
  have K := hid (G.out _ t ht (fset3_below (u0 := .bool (ok && Sh.ng d)) (u1 := .string t) (u2 := .int .i64 DD.e) (b := w.heap.size) (BW3.trans ((alloc_b w3 (.cells #[.bool (ok && Sh.ng d), .string t, .int .i64 DD.e] 25)).mono BW3.size)) (Nat.le_refl _)))
  generalize Sh.ng d = ngd at *
  obtain ⟨⟨b0, b1, b2⟩, b3, b4, b5⟩ := RZB.cells
  clear HW B3 HB2 ht RZ3 BW3 RZB
  cases ok
  · rw [Bool.false_and] at K RZA
    obtain ⟨⟨a0', a1, a2⟩, a3, a4, a5⟩ := RZA.out.cells
    go_wp2_with fail
    (try simp only [Exit.inBlock, Exit.then])
    refine bodyPost_ret (results_row_tmp2 rfl _ _ w.heap.size 25 _ (0, 0) _ rfl (RZA.out.put _ _ _) Tryz.underlying25 rfl (by kernel_rfl)) rfl ?_
    exact K.out
  · rw [Bool.true_and] at K RZA
    obtain ⟨⟨a0', a1, a2⟩, a3, a4, a5⟩ := RZA.out.cells
    go_wp2_with fail
    refine (NG.out _).mono ?_
    rintro e wz ⟨rfl, hz⟩
    subst hz
    go_wp2_with fail
    (try simp only [Exit.inBlock, Exit.then])
    refine bodyPost_ret (results_row_tmp2 rfl _ _ w.heap.size 25 _ (0, 0) _ rfl (RZA.out.put _ _ _) Tryz.underlying25 rfl (by kernel_rfl)) rfl ?_
    exact K.out

set_option maxRecDepth 100000 in
set_option maxHeartbeats 4000000 in
/-- Holds, where nothing is refused and no sign is set. -/
theorem zhold_pos (d : Int) (s : ByteArray) (X : Sc.D) (w : World) (h0 : 0 ≤ d) (h1 : d < 9218868437227405312) (hs : Str s X.ds) (hX : Sh.Nm X) (hn : X.neg = false) (hl : X.ds.length ≤ 100000) :
    Calls Tryz.prog 23 #[.agg #[.bool false, .string s, .int .i64 X.e], .int .u64 d] w fun e w' => e = .returned (.tuple #[.bool (Sh.hD (Sh.dd (Sh.A d)) (Sh.dd (Sh.B d)) X (decide (d % 2 = 0))), .int .i64 0]) ∧ Below w.heap.size w w' := by
  have hm : d % 9223372036854775808 = d := by omega
  have FN := hid (fun wx : World => zfinite_any d wx h0 (by omega))
  have NG := hid (fun wx : World => znegative_any d wx h0 (by omega))
  have SP := hid (fun wx : World => zspan_any d wx h0 (by omega) (by omega))
  rw [hm] at SP
  rw [Sh.fnt_iff, hm, decide_eq_true h1] at FN
  rw [show Sh.ng d = false from decide_eq_false (by omega)] at NG
  have NO := fun wx : World => norm_any false s X.ds X.e wx hs (by omega)
  have E0 : errOf X.ds X.e = 0 ∧ nmd false X.ds X.e = X := by
    refine ⟨by rw [errOf, if_pos hX.dec], ?_⟩
    rw [nmd, if_pos hX.dec, ← hn]
    exact hX.fix
  unfold NormTold decV at NO
  rw [E0.1, E0.2] at NO
  have HN := hid NO
  have HO : Hid (∀ (wx : World) (s1 s2 s3 t : ByteArray), Str s2 (Sh.dd (Sh.A d)).ds → Str s3 (Sh.dd (Sh.B d)).ds → Str t X.ds → Calls Tryz.prog 41 #[spanV (Sh.dd (Sh.V d)) (Sh.dd (Sh.A d)) (Sh.dd (Sh.B d)) s1 s2 s3 (decide (d % 2 = 0)), .agg #[.bool X.neg, .string t, .int .i64 X.e]] wx fun e w' => e = .returned (.bool (Sh.hD (Sh.dd (Sh.A d)) (Sh.dd (Sh.B d)) X (decide (d % 2 = 0)))) ∧ Below wx.heap.size wx w') :=
    fun wx s1 s2 s3 t q2 q3 qt => zholds_any _ _ _ X _ s1 s2 s3 t wx (Sh.nmA h0 h1) (Sh.nmB h0 h1) hX q2 q3 qt
  rw [hn] at HO
  have SP2 : Hid (∀ wx : World, Calls Tryz.prog 25 #[.int .u64 d] wx fun r w' => ∃ s1 s2 s3, r = .returned (spanV (Sh.dd (Sh.V d)) (Sh.dd (Sh.A d)) (Sh.dd (Sh.B d)) s1 s2 s3 (decide (d % 2 = 0))) ∧ Hid (Str s2 (Sh.dd (Sh.A d)).ds ∧ Str s3 (Sh.dd (Sh.B d)).ds) ∧ Below wx.heap.size wx w') := by
    intro wx
    refine (SP.out wx).mono ?_
    rintro e w' ⟨v, rfl, ⟨s1, s2, s3, hv, g1, g2, g3⟩, hB⟩
    exact ⟨s1, s2, s3, by rw [hv], ⟨g2, g3⟩, hB⟩
  have ZB := hid (alloc_b w (.cells #[.bool false, .string s, .int .i64 X.e] 25))
  clear E0 NO hs hX SP hm hl
  generalize Sh.hD (Sh.dd (Sh.A d)) (Sh.dd (Sh.B d)) X (decide (d % 2 = 0)) = RB0 at *
  generalize decide (d % 2 = 0) = cb at *
  generalize Sh.dd (Sh.V d) = DV at *
  generalize Sh.dd (Sh.A d) = DA at *
  generalize Sh.dd (Sh.B d) = DB at *
  unfold spanV at HO SP2
  go_enter Tryz.func23, Tryz.ntmps23
  go_wp2_with fail
  refine (HN.out _).mono ?_
  rintro e w1 ⟨v, rfl, ⟨t, hv, ht⟩, B1⟩
  rw [hn] at hv
  unfold decV at hv
  subst hv
  have HB1 := hid (ZB.out.trans (B1.mono ZB.out.size))
  have HT := hid ht
  clear B1 HN ht
  go_wp2_with fail
  refine (FN.out _).mono ?_
  rintro e wz ⟨rfl, hz⟩
  subst hz
  go_upto_region 6 with fail
  have c0 := (FR3.new w1 (.bool false) (.string t) (.int .i64 X.e)).cells.1.1
  go_quiet (with_reducible exact Calls.quiet_of_same (NG.out _))
  have rY : FR3 ((w1.alloc (.cells #[.bool false, .string t, .int .i64 X.e] 25)).drewN nq) w1.heap.size (.bool false) (.string t) (.int .i64 X.e) := FR3.new w1 _ _ _
  have bY := below_drewN (HB1.out.trans ((alloc_b w1 (.cells #[.bool false, .string t, .int .i64 X.e] 25)).mono HB1.out.size)) nq
  generalize (w1.alloc (.cells #[.bool false, .string t, .int .i64 X.e] 25)).drewN nq = wY at *
  have rY2 : FR3 (wY.setCell ⟨w1.heap.size, 0, none⟩ (.bool false)) w1.heap.size (.bool false) (.string t) (.int .i64 X.e) := fset1 (o := 0) (v := .bool false) (c' := #[.bool false, .string t, .int .i64 X.e]) rY (by simp [Array.setIfInBounds])
  have bY2 := bY.setCell (p := ⟨w1.heap.size, 0, none⟩) HB1.out.size (.bool false)
  obtain ⟨⟨q0, q1, q2⟩, q3, q4, q5⟩ := rY.cells
  obtain ⟨SS, KS, CS, BS, MS⟩ := state (fun w' => FR3 w' w1.heap.size (.bool false) (.string t) (.int .i64 X.e)) w (fun _ _ g hB => FR3.below g hB (FR3.lt g))
  have S0 := hid (MS.out _ rY2 bY2)
  have FT : Hid (∀ wx : World, SS wx → (wx.cell? ⟨w1.heap.size, 0, none⟩ = some (.bool false) ∧ wx.cell? ⟨w1.heap.size, 1, none⟩ = some (.string t) ∧ wx.cell? ⟨w1.heap.size, 2, none⟩ = some (.int .i64 X.e))) := fun wx h => (CS.out wx h).cells.1
  clear rY rY2 bY bY2 MS CS c0
  go_upto_region 9 with fail
  generalize wY.setCell ⟨w1.heap.size, 0, none⟩ (.bool false) = wX at *
  have T0 := hid (KS.out _ _ S0.out (drew_nil _))
  clear S0 q0 q1 q2 q3 q4 q5
  have HO2 : Hid (∀ (wx : World) (s1 s2 s3 : ByteArray), Hid (Str s2 DA.ds ∧ Str s3 DB.ds) → Calls Tryz.prog 41 #[.agg #[.bool DV.neg, .string s1, .int .i64 DV.e, .bool DA.neg, .string s2, .int .i64 DA.e, .bool DB.neg, .string s3, .int .i64 DB.e, .bool cb], .agg #[.bool false, .string t, .int .i64 X.e]] wx fun e w' => e = .returned (.bool RB0) ∧ Below wx.heap.size wx w') := fun wx s1 s2 s3 h => HO.out wx s1 s2 s3 t h.out.1 h.out.2 HT.out
  go_region_held3 (fun wx => (wx.cell? ⟨w1.heap.size, 0, none⟩ = some (.bool false) ∧ wx.cell? ⟨w1.heap.size, 1, none⟩ = some (.string t) ∧ wx.cell? ⟨w1.heap.size, 2, none⟩ = some (.int .i64 X.e))) (first | (with_reducible exact FT.out _ T2.out) | (with_reducible exact FT.out _ T1.out) | (with_reducible exact FT.out _ T0.out)) (first
    | (go_at_call 25; with_reducible refine (SP2.out _).mono ?_; rintro e w5 ⟨s1, s2, s3, rfl, HG, hB⟩; have T1 := hid (KS.out _ _ T0.out hB); clear hB)
    | (go_at_call 41; with_reducible refine (HO2.out _ _ _ _ HG).mono ?_; rintro e w6 ⟨rfl, hB⟩; have T2 := hid (KS.out _ _ T1.out hB); clear hB))
  have K := hid (BS.out _ T2.out)
  clear T0 T1 T2 FT KS BS HO HO2 SP2
  go_wp2_with fail
  go_ret2
  exact ⟨rfl, K.out⟩
end Go.Proofs.YtjkefcikepnbpaaGreatDoor

namespace Go.Proofs.YtjkefcikepnbpaaGreatDoor

theorem lnml_of {xs : List Int} {e : Int} (h : xs ≠ [] ∧ -1152921504606846976 ≤ e ∧ e ≤ 1152921504606846976 ∧ (∀ i, i < xs.length → 48 ≤ xs.getD i 0 ∧ xs.getD i 0 ≤ 57) ∧ ((xs = [48] ∧ e = 0) ∨ (xs ≠ [48] ∧ xs.getD 0 0 ≠ 48 ∧ xs.getD (xs.length - 1) 0 ≠ 48))) : Sc.IsDec xs e ∧ Sc.nrm false xs e = ⟨false, xs, e⟩ := by
  obtain ⟨h1, h2, h3, h4, h5⟩ := h
  have dg : ∀ x ∈ xs, Sc.dg x = true := fun x hx => by
    obtain ⟨i, hi, rfl⟩ := List.getElem_of_mem hx
    have := h4 i hi
    rw [show xs.getD i 0 = xs[i] by simp [List.getD, hi]] at this
    exact Sc.dg_iff.2 this
  rcases h5 with ⟨rfl, rfl⟩ | ⟨_, e1, e2⟩
  · decide +kernel
  · have hp : 0 < xs.length := by
      rcases Nat.eq_zero_or_pos xs.length with c | c
      · exact absurd (List.length_eq_zero_iff.1 c) h1
      · exact c
    have lz0 : Sc.lz xs = 0 := Sc.lz_is (fun i hi => by omega) e1
    have tz0 : Sc.tz xs = 0 := by
      have := Sc.tz_is (ds := xs) (k := xs.length) (Nat.le_refl _) (fun i hi hj => by omega) (fun _ => e2)
      omega
    refine ⟨⟨h1, h2, h3, dg, fun _ => by rw [tz0]; omega⟩, ?_⟩
    rw [Sc.nrm_pos (by omega), lz0, tz0]
    simp

theorem lnml_nrm {xs : List Int} {e : Int} (neg : Bool) (h : Sc.IsDec xs e) : Sc.IsDec (Sc.nrm neg xs e).ds (Sc.nrm neg xs e).e ∧ Sc.nrm false (Sc.nrm neg xs e).ds (Sc.nrm neg xs e).e = ⟨false, (Sc.nrm neg xs e).ds, (Sc.nrm neg xs e).e⟩ := by
  apply lnml_of
  obtain ⟨h1, h2, h3, h4, h5⟩ := h
  by_cases hz : Sc.lz xs = xs.length
  · rw [Sc.nrm_zero hz]
    refine ⟨by simp, by simp, by simp, ?_, .inl ⟨rfl, rfl⟩⟩
    intro i hi
    simp at hi
    subst hi
    simp
  · rw [Sc.nrm_pos hz]
    have lt := Sc.lz_tz hz
    have e5 := h5 hz
    simp only
    have len : ((xs.drop (Sc.lz xs)).take (xs.length - Sc.tz xs - Sc.lz xs)).length = xs.length - Sc.tz xs - Sc.lz xs := by rw [List.length_take, List.length_drop]; omega
    have at_ : ∀ i, i < xs.length - Sc.tz xs - Sc.lz xs → ((xs.drop (Sc.lz xs)).take (xs.length - Sc.tz xs - Sc.lz xs)).getD i 0 = Sc.pk xs (Sc.lz xs + i) := by
      intro i hi
      have := Sc.pk_take (xs.drop (Sc.lz xs)) (xs.length - Sc.tz xs - Sc.lz xs) i
      rw [if_pos hi, Sc.pk_drop] at this
      exact this
    have hd : ((xs.drop (Sc.lz xs)).take (xs.length - Sc.tz xs - Sc.lz xs)).getD 0 0 ≠ 48 := by
      rw [at_ 0 (by omega), Nat.add_zero]; exact Sc.lz_end xs
    refine ⟨?_, by omega, by omega, ?_, .inr ⟨?_, hd, ?_⟩⟩
    · intro c; rw [c] at len; simp at len; omega
    · intro i hi
      rw [len] at hi
      rw [at_ i hi]
      have hi2 : Sc.lz xs + i < xs.length := by omega
      have := h4 (xs[Sc.lz xs + i]) (List.getElem_mem hi2)
      have e : Sc.pk xs (Sc.lz xs + i) = xs[Sc.lz xs + i] := by simp [Sc.pk, List.getD, hi2]
      rw [e]
      exact Sc.dg_iff.1 this
    · intro c; rw [c] at hd; exact hd rfl
    · rw [len, at_ _ (by omega), show Sc.lz xs + (xs.length - Sc.tz xs - Sc.lz xs - 1) = xs.length - Sc.tz xs - 1 by omega]
      exact Sc.tz_end (by omega)

end Go.Proofs.YtjkefcikepnbpaaGreatDoor

namespace Go.Proofs.YtjkefcikepnbpaaGreatDoor
open Go Go.RowKit Go.Deep

namespace Sh
/-- What Holds tells. -/
noncomputable def hoB (neg : Bool) (xs : List Int) (e d : Int) : Bool := if Sc.IsDec xs e ∧ Ie.fnt d = true then (neg == ng d) && hD (dd (A (d % 9223372036854775808))) (dd (B (d % 9223372036854775808))) ⟨false, (Sc.nrm neg xs e).ds, (Sc.nrm neg xs e).e⟩ (decide ((d % 9223372036854775808) % 2 = 0)) else false
noncomputable def hoE (xs : List Int) (e d : Int) : Int := if Sc.IsDec xs e then (if Ie.fnt d = true then 0 else 5) else 80
theorem nrm_ds (neg : Bool) (xs : List Int) (e : Int) : (Sc.nrm neg xs e).ds = (Sc.nrm false xs e).ds ∧ (Sc.nrm neg xs e).e = (Sc.nrm false xs e).e := by
  unfold Sc.nrm
  split <;> exact ⟨rfl, rfl⟩
theorem nm_nrm {neg : Bool} {xs : List Int} {e : Int} (h : Sc.IsDec xs e) (hl : xs.length ≤ 281474976710654) : Nm ⟨false, (Sc.nrm neg xs e).ds, (Sc.nrm neg xs e).e⟩ := by
  have n := lnml_nrm neg h
  exact ⟨n.1, n.2, by have := Sc.nrm_len neg xs e; show (Sc.nrm neg xs e).ds.length ≤ _; omega⟩
end Sh

def HoTold (neg : Bool) (xs : List Int) (e d : Int) (w : World) (r : Ending) (w' : World) : Prop := r = .returned (.tuple #[.bool (Sh.hoB neg xs e d), .int .i64 (Sh.hoE xs e d)]) ∧ Below w.heap.size w w'

set_option maxRecDepth 100000 in
set_option maxHeartbeats 4000000 in
theorem zhold_any (neg : Bool) (s : ByteArray) (xs : List Int) (e d : Int) (w : World) (h0 : 0 ≤ d) (h1 : d < 18446744073709551616) (hs : Str s xs) (hl : xs.length ≤ 281474976710654) :
    Calls Tryz.prog 23 #[.agg #[.bool neg, .string s, .int .i64 e], .int .u64 d] w fun r w' => HoTold neg xs e d w r w' := by
  have FN := hid (fun wx : World => zfinite_any d wx h0 h1)
  have NG := hid (fun wx : World => znegative_any d wx h0 h1)
  have NO := hid (fun wx : World => norm_any neg s xs e wx hs (by omega))
  have ZB := hid (alloc_b w (.cells #[.bool neg, .string s, .int .i64 e] 25))
  unfold NormTold decV at NO
  by_cases hd : Sc.IsDec xs e
  · have E0 : errOf xs e = 0 ∧ nmd neg xs e = Sc.nrm neg xs e := ⟨by rw [errOf, if_pos hd], by rw [nmd, if_pos hd]⟩
    rw [E0.1, E0.2] at NO
    have hng := Sc.nrm_neg neg xs e
    by_cases hf : Ie.fnt d = true
    · have hfin : d % 9223372036854775808 < 9218868437227405312 := by rw [Sh.fnt_iff] at hf; exact of_decide_eq_true hf
      obtain ⟨a, ha⟩ : ∃ a, d % 9223372036854775808 = a := ⟨_, rfl⟩
      have a0 : 0 ≤ a := by omega
      have SP := fun wx : World => zspan_any d wx h0 h1 hfin
      have nmX := Sh.nm_nrm (neg := neg) hd hl
      have G : Hid (∀ w' r, Below w.heap.size w w' → r = ((neg == Sh.ng d) && Sh.hD (Sh.dd (Sh.A a)) (Sh.dd (Sh.B a)) ⟨false, (Sc.nrm neg xs e).ds, (Sc.nrm neg xs e).e⟩ (decide (a % 2 = 0))) → HoTold neg xs e d w (.returned (.tuple #[.bool r, .int .i64 0])) w') := by
        intro w' r hB hr
        refine ⟨?_, hB⟩
        rw [Sh.hoB, if_pos ⟨hd, hf⟩, Sh.hoE, if_pos hd, if_pos hf, hr, ha]
      rw [ha] at SP hfin
      have HO : Hid (∀ (wx : World) (s1 s2 s3 t : ByteArray), Str s2 (Sh.dd (Sh.A a)).ds → Str s3 (Sh.dd (Sh.B a)).ds → Str t (Sc.nrm neg xs e).ds → Calls Tryz.prog 41 #[spanV (Sh.dd (Sh.V a)) (Sh.dd (Sh.A a)) (Sh.dd (Sh.B a)) s1 s2 s3 (decide (a % 2 = 0)), .agg #[.bool false, .string t, .int .i64 (Sc.nrm neg xs e).e]] wx fun e' w' => e' = .returned (.bool (Sh.hD (Sh.dd (Sh.A a)) (Sh.dd (Sh.B a)) ⟨false, (Sc.nrm neg xs e).ds, (Sc.nrm neg xs e).e⟩ (decide (a % 2 = 0)))) ∧ Below wx.heap.size wx w') :=
        fun wx s1 s2 s3 t q2 q3 qt => zholds_any _ _ _ ⟨false, (Sc.nrm neg xs e).ds, (Sc.nrm neg xs e).e⟩ _ s1 s2 s3 t wx (Sh.nmA a0 hfin) (Sh.nmB a0 hfin) nmX q2 q3 qt
      have SP2 : Hid (∀ wx : World, Calls Tryz.prog 25 #[.int .u64 d] wx fun r w' => ∃ s1 s2 s3, r = .returned (spanV (Sh.dd (Sh.V a)) (Sh.dd (Sh.A a)) (Sh.dd (Sh.B a)) s1 s2 s3 (decide (a % 2 = 0))) ∧ Hid (Str s2 (Sh.dd (Sh.A a)).ds ∧ Str s3 (Sh.dd (Sh.B a)).ds) ∧ Below wx.heap.size wx w') := by
        intro wx
        refine (SP wx).mono ?_
        rintro e w' ⟨v, rfl, ⟨s1, s2, s3, hv, g1, g2, g3⟩, hB⟩
        exact ⟨s1, s2, s3, by rw [hv], ⟨g2, g3⟩, hB⟩
      rw [hf] at FN
      clear SP E0 nmX hs hl hf hfin a0 ha hd
      generalize Sc.nrm neg xs e = X at *
      generalize hRR : Sh.hD (Sh.dd (Sh.A a)) (Sh.dd (Sh.B a)) ⟨false, X.ds, X.e⟩ (decide (a % 2 = 0)) = RB0 at *
      generalize decide (a % 2 = 0) = cb at *
      generalize Sh.dd (Sh.V a) = DV at *
      generalize Sh.dd (Sh.A a) = DA at *
      generalize Sh.dd (Sh.B a) = DB at *
      generalize Sh.ng d = nd at *
      clear hRR
      unfold spanV at HO SP2
      cases neg
      · cases nd
        · go_enter Tryz.func23, Tryz.ntmps23
          go_wp2_with fail
          refine (NO.out _).mono ?_
          rintro e w1 ⟨v, rfl, ⟨t, hv, ht⟩, B1⟩
          rw [hng] at hv
          unfold decV at hv
          subst hv
          have HB1 := hid (ZB.out.trans (B1.mono ZB.out.size))
          have HT := hid ht
          clear B1 NO ht hng
          go_wp2_with fail
          refine (FN.out _).mono ?_
          rintro e wz ⟨rfl, hz⟩
          subst hz
          go_upto_region 6 with fail
          have c0 := (FR3.new w1 (.bool false) (.string t) (.int .i64 X.e)).cells.1.1
          go_quiet (with_reducible exact Calls.quiet_of_same (NG.out _))
          have G2 : Hid (∀ w', Below w.heap.size w w' → HoTold false xs e d w (.returned (.tuple #[.bool RB0, .int .i64 0])) w') := fun w' hB => G.out _ _ hB (by simp)
          have rY : FR3 ((w1.alloc (.cells #[.bool false, .string t, .int .i64 X.e] 25)).drewN nq) w1.heap.size (.bool false) (.string t) (.int .i64 X.e) := FR3.new w1 _ _ _
          have bY := below_drewN (HB1.out.trans ((alloc_b w1 (.cells #[.bool false, .string t, .int .i64 X.e] 25)).mono HB1.out.size)) nq
          generalize (w1.alloc (.cells #[.bool false, .string t, .int .i64 X.e] 25)).drewN nq = wY at *
          have rY2 : FR3 (wY.setCell ⟨w1.heap.size, 0, none⟩ (.bool false)) w1.heap.size (.bool false) (.string t) (.int .i64 X.e) := fset1 (o := 0) (v := .bool false) (c' := #[.bool false, .string t, .int .i64 X.e]) rY (by simp [Array.setIfInBounds])
          have bY2 := bY.setCell (p := ⟨w1.heap.size, 0, none⟩) HB1.out.size (.bool false)
          obtain ⟨⟨q0, q1, q2⟩, q3, q4, q5⟩ := rY.cells
          obtain ⟨SS, KS, CS, BS, MS⟩ := state (fun w' => FR3 w' w1.heap.size (.bool false) (.string t) (.int .i64 X.e)) w (fun _ _ g hB => FR3.below g hB (FR3.lt g))
          have S0 := hid (MS.out _ rY2 bY2)
          have FT : Hid (∀ wx : World, SS wx → (wx.cell? ⟨w1.heap.size, 0, none⟩ = some (.bool false) ∧ wx.cell? ⟨w1.heap.size, 1, none⟩ = some (.string t) ∧ wx.cell? ⟨w1.heap.size, 2, none⟩ = some (.int .i64 X.e))) := fun wx h => (CS.out wx h).cells.1
          clear rY rY2 bY bY2 MS CS c0
          go_upto_region 9 with fail
          generalize wY.setCell ⟨w1.heap.size, 0, none⟩ (.bool false) = wX at *
          have T0 := hid (KS.out _ _ S0.out (drew_nil _))
          clear S0 q0 q1 q2 q3 q4 q5
          have HO2 : Hid (∀ (wx : World) (s1 s2 s3 : ByteArray), Hid (Str s2 DA.ds ∧ Str s3 DB.ds) → Calls Tryz.prog 41 #[.agg #[.bool DV.neg, .string s1, .int .i64 DV.e, .bool DA.neg, .string s2, .int .i64 DA.e, .bool DB.neg, .string s3, .int .i64 DB.e, .bool cb], .agg #[.bool false, .string t, .int .i64 X.e]] wx fun e w' => e = .returned (.bool RB0) ∧ Below wx.heap.size wx w') := fun wx s1 s2 s3 h => HO.out wx s1 s2 s3 t h.out.1 h.out.2 HT.out
          go_region_held3 (fun wx => (wx.cell? ⟨w1.heap.size, 0, none⟩ = some (.bool false) ∧ wx.cell? ⟨w1.heap.size, 1, none⟩ = some (.string t) ∧ wx.cell? ⟨w1.heap.size, 2, none⟩ = some (.int .i64 X.e))) (first | (with_reducible exact FT.out _ T2.out) | (with_reducible exact FT.out _ T1.out) | (with_reducible exact FT.out _ T0.out)) (first
            | (go_at_call 25; with_reducible refine (SP2.out _).mono ?_; rintro e w5 ⟨s1, s2, s3, rfl, HG, hB⟩; have T1 := hid (KS.out _ _ T0.out hB); clear hB)
            | (go_at_call 41; with_reducible refine (HO2.out _ _ _ _ HG).mono ?_; rintro e w6 ⟨rfl, hB⟩; have T2 := hid (KS.out _ _ T1.out hB); clear hB))
          have K := hid (BS.out _ T2.out)
          clear T0 T1 T2 FT KS BS HO HO2 SP2
          go_wp2_with fail
          go_ret2
          exact G2.out _ K.out
        · go_enter Tryz.func23, Tryz.ntmps23
          go_wp2_with fail
          refine (NO.out _).mono ?_
          rintro e w1 ⟨v, rfl, ⟨t, hv, ht⟩, B1⟩
          rw [hng] at hv
          unfold decV at hv
          subst hv
          have HB1 := hid (ZB.out.trans (B1.mono ZB.out.size))
          have HT := hid ht
          clear B1 NO ht hng
          go_wp2_with fail
          refine (FN.out _).mono ?_
          rintro e wz ⟨rfl, hz⟩
          subst hz
          go_upto_region 6 with fail
          have c0 := (FR3.new w1 (.bool false) (.string t) (.int .i64 X.e)).cells.1.1
          go_quiet (with_reducible exact Calls.quiet_of_same (NG.out _))
          have K := hid (G.out _ false (below_drewN (HB1.out.trans ((alloc_b w1 (.cells #[.bool false, .string t, .int .i64 X.e] 25)).mono HB1.out.size)) nq) (by simp))
          clear G HO SP2 HB1 HT c0
          go_wp2_with fail
          go_ret2
          exact K.out
      · cases nd
        · go_enter Tryz.func23, Tryz.ntmps23
          go_wp2_with fail
          refine (NO.out _).mono ?_
          rintro e w1 ⟨v, rfl, ⟨t, hv, ht⟩, B1⟩
          rw [hng] at hv
          unfold decV at hv
          subst hv
          have HB1 := hid (ZB.out.trans (B1.mono ZB.out.size))
          have HT := hid ht
          clear B1 NO ht hng
          go_wp2_with fail
          refine (FN.out _).mono ?_
          rintro e wz ⟨rfl, hz⟩
          subst hz
          go_upto_region 6 with fail
          have c0 := (FR3.new w1 (.bool true) (.string t) (.int .i64 X.e)).cells.1.1
          go_quiet (with_reducible exact Calls.quiet_of_same (NG.out _))
          have K := hid (G.out _ false (below_drewN (HB1.out.trans ((alloc_b w1 (.cells #[.bool true, .string t, .int .i64 X.e] 25)).mono HB1.out.size)) nq) (by simp))
          clear G HO SP2 HB1 HT c0
          go_wp2_with fail
          go_ret2
          exact K.out
        · go_enter Tryz.func23, Tryz.ntmps23
          go_wp2_with fail
          refine (NO.out _).mono ?_
          rintro e w1 ⟨v, rfl, ⟨t, hv, ht⟩, B1⟩
          rw [hng] at hv
          unfold decV at hv
          subst hv
          have HB1 := hid (ZB.out.trans (B1.mono ZB.out.size))
          have HT := hid ht
          clear B1 NO ht hng
          go_wp2_with fail
          refine (FN.out _).mono ?_
          rintro e wz ⟨rfl, hz⟩
          subst hz
          go_upto_region 6 with fail
          have c0 := (FR3.new w1 (.bool true) (.string t) (.int .i64 X.e)).cells.1.1
          go_quiet (with_reducible exact Calls.quiet_of_same (NG.out _))
          have G2 : Hid (∀ w', Below w.heap.size w w' → HoTold true xs e d w (.returned (.tuple #[.bool RB0, .int .i64 0])) w') := fun w' hB => G.out _ _ hB (by simp)
          have rY : FR3 ((w1.alloc (.cells #[.bool true, .string t, .int .i64 X.e] 25)).drewN nq) w1.heap.size (.bool true) (.string t) (.int .i64 X.e) := FR3.new w1 _ _ _
          have bY := below_drewN (HB1.out.trans ((alloc_b w1 (.cells #[.bool true, .string t, .int .i64 X.e] 25)).mono HB1.out.size)) nq
          generalize (w1.alloc (.cells #[.bool true, .string t, .int .i64 X.e] 25)).drewN nq = wY at *
          have rY2 : FR3 (wY.setCell ⟨w1.heap.size, 0, none⟩ (.bool false)) w1.heap.size (.bool false) (.string t) (.int .i64 X.e) := fset1 (o := 0) (v := .bool false) (c' := #[.bool false, .string t, .int .i64 X.e]) rY (by simp [Array.setIfInBounds])
          have bY2 := bY.setCell (p := ⟨w1.heap.size, 0, none⟩) HB1.out.size (.bool false)
          obtain ⟨⟨q0, q1, q2⟩, q3, q4, q5⟩ := rY.cells
          obtain ⟨SS, KS, CS, BS, MS⟩ := state (fun w' => FR3 w' w1.heap.size (.bool false) (.string t) (.int .i64 X.e)) w (fun _ _ g hB => FR3.below g hB (FR3.lt g))
          have S0 := hid (MS.out _ rY2 bY2)
          have FT : Hid (∀ wx : World, SS wx → (wx.cell? ⟨w1.heap.size, 0, none⟩ = some (.bool false) ∧ wx.cell? ⟨w1.heap.size, 1, none⟩ = some (.string t) ∧ wx.cell? ⟨w1.heap.size, 2, none⟩ = some (.int .i64 X.e))) := fun wx h => (CS.out wx h).cells.1
          clear rY rY2 bY bY2 MS CS c0
          go_upto_region 9 with fail
          generalize wY.setCell ⟨w1.heap.size, 0, none⟩ (.bool false) = wX at *
          have T0 := hid (KS.out _ _ S0.out (drew_nil _))
          clear S0 q0 q1 q2 q3 q4 q5
          have HO2 : Hid (∀ (wx : World) (s1 s2 s3 : ByteArray), Hid (Str s2 DA.ds ∧ Str s3 DB.ds) → Calls Tryz.prog 41 #[.agg #[.bool DV.neg, .string s1, .int .i64 DV.e, .bool DA.neg, .string s2, .int .i64 DA.e, .bool DB.neg, .string s3, .int .i64 DB.e, .bool cb], .agg #[.bool false, .string t, .int .i64 X.e]] wx fun e w' => e = .returned (.bool RB0) ∧ Below wx.heap.size wx w') := fun wx s1 s2 s3 h => HO.out wx s1 s2 s3 t h.out.1 h.out.2 HT.out
          go_region_held3 (fun wx => (wx.cell? ⟨w1.heap.size, 0, none⟩ = some (.bool false) ∧ wx.cell? ⟨w1.heap.size, 1, none⟩ = some (.string t) ∧ wx.cell? ⟨w1.heap.size, 2, none⟩ = some (.int .i64 X.e))) (first | (with_reducible exact FT.out _ T2.out) | (with_reducible exact FT.out _ T1.out) | (with_reducible exact FT.out _ T0.out)) (first
            | (go_at_call 25; with_reducible refine (SP2.out _).mono ?_; rintro e w5 ⟨s1, s2, s3, rfl, HG, hB⟩; have T1 := hid (KS.out _ _ T0.out hB); clear hB)
            | (go_at_call 41; with_reducible refine (HO2.out _ _ _ _ HG).mono ?_; rintro e w6 ⟨rfl, hB⟩; have T2 := hid (KS.out _ _ T1.out hB); clear hB))
          have K := hid (BS.out _ T2.out)
          clear T0 T1 T2 FT KS BS HO HO2 SP2
          go_wp2_with fail
          go_ret2
          exact G2.out _ K.out
    · have hf' : Ie.fnt d = false := by simpa using hf
      have G : Hid (∀ w', Below w.heap.size w w' → HoTold neg xs e d w (.returned (.tuple #[.bool false, .int .i64 5])) w') := fun w' hB => ⟨by rw [Sh.hoB, if_neg (fun h => hf h.2), Sh.hoE, if_pos hd, if_neg hf], hB⟩
      rw [hf'] at FN
      clear E0 hd hs hl hf hf'
      generalize Sc.nrm neg xs e = X at *
      go_enter Tryz.func23, Tryz.ntmps23
      go_wp2_with fail
      refine (NO.out _).mono ?_
      rintro e w1 ⟨v, rfl, ⟨t, hv, ht⟩, B1⟩
      rw [hng] at hv
      unfold decV at hv
      subst hv
      have K := hid (G.out _ ((ZB.out.trans (B1.mono ZB.out.size)).trans ((alloc_b w1 (.cells #[.bool neg, .string t, .int .i64 X.e] 25)).mono (ZB.out.trans (B1.mono ZB.out.size)).size)))
      clear B1 NO ht G
      go_wp2_with fail
      refine (FN.out _).mono ?_
      rintro e wz ⟨rfl, hz⟩
      subst hz
      go_wp2_with fail
      go_ret2
      exact K.out
  · have E0 : errOf xs e = 80 := by rw [errOf, if_neg hd]
    have G : Hid (∀ w', Below w.heap.size w w' → HoTold neg xs e d w (.returned (.tuple #[.bool false, .int .i64 80])) w') := fun w' hB => ⟨by rw [Sh.hoB, if_neg (fun h => hd h.1), Sh.hoE, if_neg hd], hB⟩
    rw [E0] at NO
    clear E0 hd hs hl
    generalize nmd neg xs e = X at *
    go_enter Tryz.func23, Tryz.ntmps23
    go_wp2_with fail
    refine (NO.out _).mono ?_
    rintro e w1 ⟨v, rfl, ⟨t, hv, ht⟩, B1⟩
    unfold decV at hv
    subst hv
    have K := hid (G.out _ ((ZB.out.trans (B1.mono ZB.out.size)).trans ((alloc_b w1 (.cells #[.bool X.neg, .string t, .int .i64 X.e] 25)).mono (ZB.out.trans (B1.mono ZB.out.size)).size)))
    clear B1 NO ht G
    go_wp2_with fail
    go_ret2
    exact K.out
end Go.Proofs.YtjkefcikepnbpaaGreatDoor
