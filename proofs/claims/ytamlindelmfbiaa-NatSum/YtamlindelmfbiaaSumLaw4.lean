/-
  THE WALK OF NatSum: the empty list; all lists.
-/
import Derived.Test.YtamlindelmfbiaaSumLaw3
namespace Go.Proofs.Ytamlindelmfbiaa
open Go.RowKit Go.Deep

theorem SumSays.nil {w w' : World} {e : Ending} (h : SumSays w [] e w') : ∃ r, e = .returned (.tuple #[.slice r 0 0, .int .i64 0]) ∧ Below w.heap.size w w' := by
  obtain ⟨⟨hb, rfl⟩ | ⟨hb, r, os, rfl, hA⟩, hB⟩ := h
  · exfalso
    have := Nm.pw_pos 4096
    rcases hb with ⟨it, h, _⟩ | h
    · simp at h
    · simp only [tot] at h; omega
  · have e : os = [] := Nm.canon hA.2.1 Nm.Limbs.nil hA.2.2.1 rfl (by rw [hA.2.2.2.1]; rfl)
    subst e
    exact ⟨r, rfl, hB⟩

theorem Arg.none (w : World) (p : Option Addr) : Arg w p 0 0 [] := ⟨rfl, Nat.le_refl _, by omega, Lies.nil _ _, Nm.Limbs.nil⟩

set_option maxRecDepth 100000 in
set_option maxHeartbeats 16000000 in
theorem natSum_nil (p : Option Addr) (cap : Nat) (w : World) :
    Calls Try.prog 3 #[.slice p 0 cap] w fun e w' => e = .returned (.bool true) ∧ Below w.heap.size w w' := by
  go_enter Try.func3, Try.ntmps3
  go_wp2_with fail
  refine (awake_any _).mono ?_
  rintro e w1 ⟨rfl, hb1⟩
  have D1 := hid hb1
  clear hb1
  go_wp2_with fail
  refine wp_loop_rounds 1 ?_
  rw [rounds_succ]
  go_wp2_with fail
  refine (refSum_any p 0 cap [] _ rfl (Nat.zero_le _) (by omega) (.inl rfl) (by intro it h; simp at h) (by simp)).mono ?_
  rintro e w2 hs
  obtain ⟨rw_, rfl, hb1⟩ := hs.nil
  have D2 := hid (chain D1.out hb1 (Nat.le_refl _))
  clear hs hb1 D1
  have hmk1 := makeV 1 (by omega) w2
  rw [show ((1 : Nat) : Int) = 1 from rfl] at hmk1
  have g1 := GrownV.made w2 1
  have b1 := (Below.refl w2.heap.size w2).alloc (Nat.le_refl _) (.cells (madeCells #[.slice none 0 0] 1) 24)
  have s1 : (w2.alloc (.cells (madeCells #[.slice none 0 0] 1) 24)).heap.size = w2.heap.size + 1 := World.size_alloc _ _
  generalize w2.alloc (.cells (madeCells #[.slice none 0 0] 1) 24) = w3 at hmk1 g1 b1 s1
  have hmk2 := makeV 0 (by omega) w3
  rw [show ((0 : Nat) : Int) = 0 from rfl] at hmk2
  have b2 := (Below.refl w3.heap.size w3).alloc (Nat.le_refl _) (.cells (madeCells #[.slice none 0 0] 0) 24)
  have s2 : (w3.alloc (.cells (madeCells #[.slice none 0 0] 0) 24)).heap.size = w3.heap.size + 1 := World.size_alloc _ _
  generalize w3.alloc (.cells (madeCells #[.slice none 0 0] 0) 24) = w4 at hmk2 b2 s2
  obtain ⟨G, hG⟩ : ∃ G, w2.heap.size = G := ⟨_, rfl⟩
  obtain ⟨H, hH⟩ : ∃ H, w3.heap.size = H := ⟨_, rfl⟩
  obtain ⟨L, hL⟩ : ∃ L, w4.heap.size = L := ⟨_, rfl⟩
  have g1' := OwnV.keep (S := fun _ => False) g1 (Keep.of_below b2 (Nat.le_refl _)) (fun h => h)
  rw [hG] at hmk1 g1'
  rw [hH] at hmk2
  have D4 := chain (chain D2.out b1 (Nat.le_refl _)) b2 (Nat.le_refl _)
  have ol := Own.alloc w4 [7881706626762145792]
  have bl : Below w4.heap.size w4 (w4.alloc (.cells #[.int .u64 7881706626762145792] 29)) := (Below.refl _ _).alloc (Nat.le_refl _) _
  have ggl : GrownV (w4.alloc (.cells #[.int .u64 7881706626762145792] 29)) G [] (0 + 1) := OwnV.keep (S := fun _ => False) g1' (Keep.of_below bl (Nat.le_refl _)) (fun h => h)
  obtain ⟨wm, ap, gm, km, sm⟩ := pushV G 0 0 1 [] (.slice (some ⟨L, 0, none⟩) 1 1) rfl _ rfl rfl ggl
  simp only [World.size_alloc] at ap
  have WG : w.heap.size ≤ G := by rw [← hG]; exact D2.out.size
  have DM := hid ((chain D4 bl (Nat.le_refl _)).trans (km.below (B := w.heap.size) (fun x hx => by omega) (chain D4 bl (Nat.le_refl _)).size))
  have OLM := ol.keep km (fun h => by omega)
  have GM := hid (gm.cell (i := 0) (v := .slice (some ⟨L, 0, none⟩) 1 1) rfl)
  rw [hL] at OLM ap
  have OM := hid OLM
  have GL : Hid (G < wm.heap.size ∧ L < wm.heap.size) := ⟨OwnV.lt gm, OLM.lt⟩
  have AP := hid ap
  have H4 := hid hL
  clear g1 g1' b1 b2 s1 s2 hG hH D4 ol bl ggl ap gm km sm OLM WG D2
  go_wp2
  clear hmk1 hmk2
  refine wp_loop_rounds 1 ?_
  rw [rounds_succ]
  have hL := H4.out
  go_wp2_with (at_builtin; refine wpList_append_row rfl _ _ rfl AP.out (by rfl) (by rfl) ?_; clear AP)
  refine (sum_any _ 0 1 [] _ rfl (by omega) (by omega) (.inl rfl) (by intro it h; simp at h)).mono ?_
  rintro e wn hs
  obtain ⟨rs, rfl, hb1⟩ := hs.nil
  have BN := hid hb1
  clear hs hb1
  go_wp2_with fail
  refine (sum_any _ 0 0 [] _ rfl (by omega) (by omega) (.inl rfl) (by intro it h; simp at h)).mono ?_
  rintro e wo hs
  obtain ⟨rt, rfl, hb1⟩ := hs.nil
  have BO := hid (chain BN.out hb1 (Nat.le_refl _))
  clear hs hb1
  go_wp2_with fail
  refine (refSame_is true rs rw_ 0 0 0 0 [] [] _ (Arg.none _ _) (Arg.none _ _) rfl).mono ?_
  rintro e wp1 ⟨rfl, hb1⟩
  have BP := hid (chain BO.out hb1 (Nat.le_refl _))
  clear hb1
  go_wp2_with fail
  refine (refSame_is true rt rw_ 0 0 0 0 [] [] _ (Arg.none _ _) (Arg.none _ _) rfl).mono ?_
  rintro e wq ⟨rfl, hb1⟩
  have BQ := hid (chain BP.out hb1 (Nat.le_refl _))
  clear hb1
  have hcl : wq.cell? ⟨G, 0, none⟩ = some (.slice (some ⟨L, 0, none⟩) 1 1) := (BQ.out.cell (p := ⟨G, 0, none⟩) GL.out.1).trans GM.out
  have hcm : wq.cell? ⟨L, 0, none⟩ = some (.int .u64 7881706626762145792) := (BQ.out.cell (p := ⟨L, 0, none⟩) GL.out.2).trans (OM.out.cell 0 (by simp))
  have DQ := hid (DM.out.trans (BQ.out.mono DM.out.size))
  clear hL
  go_wp2_with fail
  refine wp_loop_rounds 1 ?_
  rw [rounds_succ]
  go_wp2_with fail
  refine (refSame_is true rs rw_ 0 0 0 0 [] [] _ (Arg.none _ _) (Arg.none _ _) rfl).mono ?_
  rintro e wt ⟨rfl, hb1⟩
  have DT := hid (chain DQ.out hb1 (Nat.le_refl _))
  have DV := hid (chain DT.out ((Below.refl wt.heap.size wt).alloc (Nat.le_refl _) (.cells #[] 29)) (Nat.le_refl _))
  clear hb1 hcl hcm
  go_wp2_with fail
  refine wp_loop_rounds 1 ?_
  rw [rounds_succ]
  go_wp2_with fail
  refine (refSame_is true _ rw_ 0 0 0 0 [] [] _ (Arg.none _ _) (Arg.none _ _) rfl).mono ?_
  rintro e w9 ⟨rfl, hb1⟩
  have D9 := hid (chain DV.out hb1 (Nat.le_refl _))
  clear hb1
  go_wp2
  go_ret
  exact ⟨rfl, D9.out⟩

theorem natSum_any (p : Option Addr) (n cap : Nat) (its : List Item) (w : World) (hn : its.length = n) (hc : n ≤ cap) (hcap : cap ≤ 17592186044416) (hp : Holds w p its) (hi : Items w its) :
    Calls Try.prog 3 #[.slice p n cap] w fun e w' => e = .returned (.bool true) ∧ Below w.heap.size w w' := by
  rcases hp with rfl | ⟨b, off, rfl, h⟩
  · obtain rfl : n = 0 := by simpa using hn.symm
    exact natSum_nil p cap w
  · exact natSum_some b off n cap its w hn hc hcap h hi
end Go.Proofs.Ytamlindelmfbiaa
