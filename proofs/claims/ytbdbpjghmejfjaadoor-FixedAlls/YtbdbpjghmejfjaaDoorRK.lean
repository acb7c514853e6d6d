/-
  Texts put together: FAlls, FTab.
-/
import Derived.Test.YtbdbpjghmejfjaaDoorRJ
import Derived.Test.YtbdbpjghmejfjaaDoorRD
import Derived.Lib.LaidTab
namespace Go.Proofs.YtbdbpjghmejfjaaDoor
open Go Go.RowKit Go.Deep

theorem feq_dec (a b : Bool) (s t : ByteArray) (e f : Int) (w : World) : (Op.equalIn 10000 29 (.agg #[.bool a, .string s, .int .i64 e]) (.agg #[.bool b, .string t, .int .i64 f])).run Tryd.prog w = .ok (a == b && (s.toList == t.toList) && e == f) w := by
  have u3 := Tryd.underlying3
  have a3 := Tryd.isAgg3
  have z3 := Tryd.sizeOf3
  have u4 := Tryd.underlying4
  have a4 := Tryd.isAgg4
  have z4 := Tryd.sizeOf4
  have u9 := Tryd.underlying9
  have a9 := Tryd.isAgg9
  have z9 := Tryd.sizeOf9
  have hS : Tryd.prog.underlying 29 = some (.struct (Tryd.prog.fieldsOf 29)) := by kernel_rfl
  rw [show (10000 : Nat) = 9999 + 1 from rfl, run_equalIn_struct w 9999 29 _ _ hS (by kernel_rfl)]
  simp only [Program.fieldsOf, Tryd.underlying29]
  go_simp
  by_cases h1 : a = b <;> by_cases h2 : s.toList = t.toList <;> by_cases h3 : e = f <;> simp [h1, h2, h3]


set_option maxRecDepth 100000 in
set_option maxHeartbeats 2000000 in
theorem lalls_any (d : Int) (w : World) (hT : Tab w) (h0 : 0 ≤ d) (h1 : d < 18446744073709551616) :
    Calls Tryd.prog 5 #[.int .u64 d] w fun e w' => e = .returned (.bool true) ∧ Below w.heap.size w w' := by
  have RA := hid (rall_any d w h0 h1)
  have FA : Hid (∀ wx : World, Below w.heap.size w wx → Calls Tryd.prog 6 #[.int .u64 d] wx fun e w' => AllTold d wx e w') := fun wx hB => fall_any d wx (hT.below hB) h0 h1
  have EQ : Hid (∀ (s t : ByteArray), Str s (Fx.aS d) → Str t (Fx.aS d) → t = s) := fun s t h g => g.inj h
  unfold AllTold at RA FA
  generalize Fx.aS d = S at *
  generalize Fx.aN d = N at *
  generalize Fx.aE d = E at *
  generalize Fx.aR d = R at *
  have ED := fun (s : ByteArray) (wx : World) => feq_dec N N s s E E wx
  simp only [beq_self_eq_true, Bool.and_self] at ED
  have HED := hid ED
  clear hT h0 h1 ED
  go_enter Tryd.func5, Tryd.ntmps5
  go_wp2_with fail
  refine RA.out.mono ?_
  rintro e w1 ⟨s, rfl, hs, B1⟩
  have HS := hid hs
  go_upto_region 2 with fail
  have B2 := B1.trans ((alloc_b w1 (.cells #[.bool N, .string s, .int .i64 E] 29)).mono B1.size)
  have R1 := hid (FR3.new w1 (.bool N) (.string s) (.int .i64 E))
  have F2 := hid (FA.out _ B2)
  have HB2 := hid B2
  clear hs B1 B2 RA FA
  generalize w1.alloc (.cells #[.bool N, .string s, .int .i64 E] 29) = wA at *
  generalize w1.heap.size = b at *
  go_wp2_with fail
  refine F2.out.mono ?_
  rintro e w2 ⟨t, rfl, ht, B3⟩
  obtain rfl := EQ.out s t HS.out ht
  have HB3 := hid (HB2.out.trans (B3.mono HB2.out.size))
  have R2 := hid (R1.out.below B3 R1.out.lt)
  go_upto_region 3 with fail
  have B4 := alloc_b w2 (.cells #[.bool N, .string t, .int .i64 E] 29)
  have R3 := hid (FR3.new w2 (.bool N) (.string t) (.int .i64 E))
  have R4 := hid (R2.out.below B4 R2.out.lt)
  have HB4 := hid (HB3.out.trans (B4.mono HB3.out.size))
  clear ht B3 B4 R1 R2 F2 HB2 HB3 EQ HS
  generalize w2.alloc (.cells #[.bool N, .string t, .int .i64 E] 29) = wB at *
  generalize w2.heap.size = c at *
  obtain ⟨⟨c0, c1, c2⟩, -⟩ := R3.out.cells
  obtain ⟨⟨d0, d1, d2⟩, -⟩ := R4.out.cells
  have E1 := HED.out t wB
  go_wp2_with fail
  go_ret
  exact ⟨rfl, HB4.out⟩

set_option maxRecDepth 100000 in
set_option maxHeartbeats 2000000 in
theorem alls_law (a : Option Addr) (len cap : Nat) (its : List Ak) (w : World) (hl : its.length = len) (hc : len ≤ cap) (hm : cap ≤ 17592186044416) (hh : Ak.Holds w a its) (hb : ∀ it ∈ its, Ak.Bd it) (hT : Tab w) :
    Calls Tryd.prog 3 #[.slice a len cap] w fun e w' => e = .returned (.bool true) ∧ Below w.heap.size w w' := by
  have AL : Hid (∀ (d : Int) (wx : World), Below w.heap.size w wx → 0 ≤ d → d < 18446744073709551616 → Calls Tryd.prog 5 #[.int .u64 d] wx fun e w' => e = .returned (.bool true) ∧ Below wx.heap.size wx w') := fun d wx hB a b => lalls_any d wx (hT.below hB) a b
  have GT : Hid (∀ i, i < len → ∃ b off A, a = some ⟨b, off, none⟩ ∧ 0 ≤ A ∧ A < 18446744073709551616 ∧ ∀ wx : World, Below w.heap.size w wx → wx.cell? ⟨b, off + i * 2, none⟩ = some (.int .u64 A)) := by
    intro i hi
    have he : its[i]? = some its[i] := List.getElem?_eq_getElem (by omega)
    rcases hh with c | ⟨b, off, e, h⟩
    · rw [c] at hl; simp at hl; omega
    · have hc2 := h i _ he
      have hbd := hb _ (List.getElem_mem (show i < its.length by omega))
      exact ⟨b, off, its[i].A, e, hbd.1.1, hbd.1.2, fun wx hB => by rw [hB.cell (p := ⟨b, off + i * 2, none⟩) (cell_lt hc2.1)]; exact hc2.1⟩
  have A0 := hid (AL.out 13876364508114452480 w (Below.refl _ _) (by omega) (by omega))
  have lb : (len : Int) ≤ 17592186044416 := by omega
  clear hh hb hT hl
  go_enter Tryd.func3, Tryd.ntmps3
  go_wp2_with fail
  refine A0.out.mono ?_
  rintro e w1 ⟨rfl, B1⟩
  have HB1 := hid B1
  clear B1 A0
  go_wp2_with fail
  go_loopg [3] len (fun j i wr => ∃ k : Nat, k + j = len ∧ i = .int .i64 (k : Int) ∧ Hid (Below w.heap.size w wr))
  case atStart => exact ⟨0, by omega, rfl, HB1.out⟩
  case round =>
    obtain ⟨k, hk, rfl, I⟩ := hrel
    cases gk with
    | zero =>
      have hki : ¬ (k : Int) < (len : Int) := by omega
      go_wp2_with fail
      go_ret
      exact ⟨rfl, I.out⟩
    | succ u =>
      have hki : (k : Int) < (len : Int) := by omega
      obtain ⟨b, off, A, ha, a0, a1, hcell⟩ := GT.out k (by omega)
      subst ha
      have hc1 := hcell wr I.out
      have A1 := hid (AL.out A wr I.out a0 a1)
      clear hcell
      go_wp2_with fail
      refine A1.out.mono ?_
      rintro e w2 ⟨rfl, B2⟩
      have I2 := hid (I.out.trans (B2.mono I.out.size))
      clear B2 A1 I
      go_wp2_with fail
      go_roundg u
      case measure => omega
      case rel => exact ⟨k + 1, by omega, by go_num, I2.out⟩
end Go.Proofs.YtbdbpjghmejfjaaDoor

namespace Go.Proofs.YtbdbpjghmejfjaaDoor
open Go Go.RowKit Go.Deep

theorem tab_laid : (Rows.laid_math_bits_deBruijn64tab : DataW Unit) = Lib.tabData .u8 (List.map Int.ofNat Lib.deBruijn64tab) := by kernel_rfl

theorem tab_of {W : World} {rest : List (String × DataW Unit)} (h : laidMet Tryd.prog (("math/bits.deBruijn64tab", Rows.laid_math_bits_deBruijn64tab) :: rest) W) : Tab W := by
  rw [tab_laid] at h
  have ht := Lib.tabIs_of_head (g := 0) (t := 74) (e := 5) (n := 64) (k := .u8) (zs := List.map Int.ofNat Lib.deBruijn64tab) (by kernel_rfl) (by kernel_rfl) Tryd.underlying74 Tryd.underlying5 (by kernel_rfl) (by kernel_rfl) h
  intro j hj
  have hl : (List.map Int.ofNat Lib.deBruijn64tab).length = Lib.deBruijn64tab.length := by simp
  rw [ht.cell (g := 0) (by kernel_rfl) j (by omega)]
  simp [List.getD, hj]

end Go.Proofs.YtbdbpjghmejfjaaDoor
