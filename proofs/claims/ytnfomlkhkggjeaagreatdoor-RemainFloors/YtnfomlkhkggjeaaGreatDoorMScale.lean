import Derived.Test.YtnfomlkhkggjeaaGreatDoorMKinds
import Derived.Test.YtnfomlkhkggjeaaGreatDoorIRound
import Derived.Test.YtnfomlkhkggjeaaGreatDoorFromW
import Derived.Test.YtnfomlkhkggjeaaGreatDoorMNum
import Derived.Test.YtnfomlkhkggjeaaGreatDoorMSt
import Derived.Deep.RegionWith
import Derived.Deep.CutRange
import Derived.Deep.CutBlock
import Derived.Deep.RegionHeld3
/-
  remain: Scale.
-/
namespace Go.Proofs.YtnfomlkhkggjeaaGreatDoor
open Go Go.RowKit Go.Deep

/-- What Scale answers. -/
def Ie.ScaleIs (d n r : Int) : Prop := (Ie.isn d = true → r = 9221120237041090560) ∧ (Ie.isi d = true → r = d) ∧ (Ie.fin d → ∃ x, r = Ie.sg (Ie.ngd d) x ∧ Ie.Rnd (Ie.dm d) 1 (Ie.de d + n) false x)

theorem Ans.lim1 {B : Nat} {w : World} {p : Option Addr} {os : List Int} {v : Int} (h : Ans B w p os v) (hv : v < 18446744073709551616) : os.length ≤ 1 := by
  have := (Nm.tsize_le_iff h.2.1 1).2 (by rw [h.2.2.2.1]; exact hv)
  rw [h.2.2.1] at this
  exact this

set_option maxRecDepth 100000 in
set_option maxHeartbeats 4000000 in
theorem scale_fin (d n : Int) (w : World) (hT : Tab w) (h0 : 0 ≤ d) (h1 : d < 18446744073709551616) (hf : Ie.fin d) :
    Calls Tryz.prog 19 #[.int .u64 d, .int .i64 n] w fun e w' => ∃ x, e = .returned (.int .u64 (Ie.sg (Ie.ngd d) x)) ∧ Hid (Ie.Rnd (Ie.dm d) 1 (Ie.de d + n) false x) ∧ Below w.heap.size w w' := by
  have NN := hid (fun (wx : World) => mnan_any d wx h0 h1)
  have NI := hid (fun (wx : World) => minfinite_any d wx h0 h1)
  rw [(Ie.fin_kinds hf).1] at NN
  rw [(Ie.fin_kinds hf).2] at NI
  have D := hid (fun (wx : World) => decode_any d wx h0 h1)
  rw [← Ie.ngd] at D
  obtain ⟨⟨m0, m1⟩, ⟨e0, e1⟩, -, -⟩ := Ie.dec_f d hf
  have FU := hid (fun (wx : World) => fromUint_any (Ie.dm d) wx m0 (by omega))
  obtain ⟨s, hs⟩ : ∃ s, min (max n (-2200)) 2200 = s := ⟨_, rfl⟩
  have sb : -2200 ≤ s ∧ s ≤ 2200 := by omega
  have RO : Hid (∀ (wx : World) (p : Option Addr) (os : List Int) (B : Nat), Tab wx → Ans B wx p os (Ie.dm d) → Calls Tryz.prog 44 #[.bool (Ie.ngd d), .slice p os.length os.length, .int .i64 (Ie.de d + s), .bool false] wx fun r w' => ∃ y, r = .returned (.tuple #[.int .u64 (Ie.sg (Ie.ngd d) y), .int .i64 0]) ∧ Hid (Ie.Rnd (Ie.dm d) 1 (Ie.de d + n) false y) ∧ Below wx.heap.size wx w') := by
    intro wx p os B hx A
    have l1 := A.lim1 (by omega)
    refine (round_any (Ie.ngd d) p _ _ os wx (A.arg (by omega)) hx (by rw [A.2.2.1]; omega) (Ie.dm d) (Ie.de d + s) false A.2.2.2.1).mono ?_
    rintro e w' ⟨x, rfl, hR, hB⟩
    refine ⟨x, rfl, Ie.scl_ok m0 m1 e0 e1 ?_, hB⟩
    rw [Ie.scl, hs]
    exact hR
  have HT := hid hT
  have eb : -1074 ≤ Ie.de d ∧ Ie.de d ≤ 971 := ⟨e0, e1⟩
  clear hT hf m0 m1 e0 e1
  simp only [partsOf] at D
  generalize Ie.ngd d = neg at *
  generalize Ie.dm d = m at *
  generalize Ie.de d = x at *
  generalize Ie.cls d = c at *
  go_enter Tryz.func19, Tryz.ntmps19
  go_wp2_with fail
  refine (NN.out _).mono ?_
  rintro e wz ⟨rfl, hz⟩
  replace hz := hz.symm
  subst hz
  go_wp2_with fail
  refine (NI.out _).mono ?_
  rintro e wz ⟨rfl, hz⟩
  replace hz := hz.symm
  subst hz
  go_wp2_with fail
  refine (D.out _).mono ?_
  rintro e w1 ⟨rfl, hB1⟩
  have HB1 := hid hB1
  clear hB1 NN NI D
  go_upto_region 6 with fail
  have hb := HB1.out.trans ((alloc_b w1 (.cells #[.bool neg, .int .i64 c, .int .u64 m, .int .i64 x] 47)).mono HB1.out.size)
  have P := Row4.new w1 47 (.bool neg) (.int .i64 c) (.int .u64 m) (.int .i64 x)
  obtain ⟨SS, KS, CS, BS, MS⟩ := state (fun w' => (w'.cell? ⟨w1.heap.size, 0, none⟩ = some (.bool neg) ∧ w'.cell? ⟨w1.heap.size, 2, none⟩ = some (.int .u64 m) ∧ w'.cell? ⟨w1.heap.size, 3, none⟩ = some (.int .i64 x)) ∧ Tab w') w (((Stays.cell _ _).and ((Stays.cell _ _).and (Stays.cell _ _))).and Stays.tab)
  have S0 := hid (MS.out _ ⟨⟨P.cells.1.1, P.cells.1.2.2.1, P.cells.1.2.2.2⟩, HT.out.below hb⟩ hb)
  clear P hb HT HB1 MS
  generalize w1.alloc (.cells #[.bool neg, .int .i64 c, .int .u64 m, .int .i64 x] 47) = wA at *
  generalize w1.heap.size = b at *
  have S1 := hid (KS.out _ _ S0.out (drew_nil _))
  have CC : Hid (∀ wx : World, SS wx → (wx.cell? ⟨b, 0, none⟩ = some (.bool neg) ∧ wx.cell? ⟨b, 2, none⟩ = some (.int .u64 m) ∧ wx.cell? ⟨b, 3, none⟩ = some (.int .i64 x))) := fun wx h => (CS.out wx h).1
  have TT : Hid (∀ wx : World, SS wx → Tab wx) := fun wx h => (CS.out wx h).2
  obtain ⟨p0, p2, p3⟩ := CC.out _ S0.out
  clear CS S0
  go_upto_region 7 with fail
  clear hs h0 h1
  obtain ⟨sb1, sb2⟩ := sb
  obtain ⟨eb1, eb2⟩ := eb
  have WK : IntKind.i64.wrap (x + s) = x + s := by rw [IntKind.wrap_i64]; omega
  go_region_held3 (fun w' => w'.cell? ⟨b, 0, none⟩ = some (.bool neg) ∧ w'.cell? ⟨b, 2, none⟩ = some (.int .u64 m) ∧ w'.cell? ⟨b, 3, none⟩ = some (.int .i64 x)) (first | (with_reducible exact CC.out _ S3.out) | (with_reducible exact CC.out _ S2.out) | (with_reducible exact CC.out _ S1.out)) (first
    | (go_at_call 45; refine (FU.out _).mono ?_; rintro e w2 ⟨p, os, rfl, A, hB⟩; have S2 := hid (KS.out _ _ S1.out hB); have R2 := hid (RO.out w2 p os _ (TT.out _ S2.out) A); clear hB A)
    | (go_at_call 44; (try rw [WK]); refine R2.out.mono ?_; rintro e w3 ⟨y, rfl, hR, hB⟩; have S3 := hid (KS.out _ _ S2.out hB); clear hB))
  all_goals (go_wp2_with fail; go_ret; exact ⟨_, rfl, hR, BS.out _ S3.out⟩)

set_option maxRecDepth 100000 in
theorem scale_any (d n : Int) (w : World) (hT : Tab w) (h0 : 0 ≤ d) (h1 : d < 18446744073709551616) :
    Calls Tryz.prog 19 #[.int .u64 d, .int .i64 n] w fun e w' => ∃ r, e = .returned (.int .u64 r) ∧ Ie.ScaleIs d n r ∧ Below w.heap.size w w' := by
  have NN := hid (fun (wx : World) => mnan_any d wx h0 h1)
  have NI := hid (fun (wx : World) => minfinite_any d wx h0 h1)
  rcases Ie.kinds d with h | ⟨h, h', h''⟩ | ⟨_, _, h⟩
  · have E : Hid (Ie.ScaleIs d n 9221120237041090560) := ⟨fun _ => rfl, fun g => (by simp only [Ie.isn, Ie.isi, decide_eq_true_iff] at h g; omega), fun g => (by simp only [Ie.isn, Ie.fin, decide_eq_true_iff] at h g; omega)⟩
    rw [h] at NN
    clear h
    go_enter Tryz.func19, Tryz.ntmps19
    go_wp2_with fail
    refine (NN.out _).mono ?_
    rintro e wz ⟨rfl, hz⟩
    replace hz := hz.symm
    subst hz
    go_wp2_with fail
    go_ret
    exact ⟨_, rfl, E.out, Below.refl _ _⟩
  · have E : Hid (Ie.ScaleIs d n d) := ⟨fun g => (by rw [h] at g; cases g), fun _ => rfl, fun g => absurd g h''⟩
    rw [h] at NN
    rw [h'] at NI
    clear h h' h''
    go_enter Tryz.func19, Tryz.ntmps19
    go_wp2_with fail
    refine (NN.out _).mono ?_
    rintro e wz ⟨rfl, hz⟩
    replace hz := hz.symm
    subst hz
    go_wp2_with fail
    refine (NI.out _).mono ?_
    rintro e wz ⟨rfl, hz⟩
    replace hz := hz.symm
    subst hz
    go_wp2_with fail
    go_ret
    exact ⟨_, rfl, E.out, Below.refl _ _⟩
  · refine (scale_fin d n w hT h0 h1 h).mono ?_
    rintro e w' ⟨x, rfl, hR, hB⟩
    refine ⟨_, rfl, ⟨fun g => ?_, fun g => ?_, fun _ => ⟨x, rfl, hR.out⟩⟩, hB⟩
    · rw [(Ie.fin_kinds h).1] at g; cases g
    · rw [(Ie.fin_kinds h).2] at g; cases g
end Go.Proofs.YtnfomlkhkggjeaaGreatDoor
