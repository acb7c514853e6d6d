/-
  THE REFERENCE's Sum.
-/
import Derived.Test.YtmglogncpfoldaaDoorLists
import Derived.Test.YtmglogncpfoldaaDoorRef4
namespace Go.Proofs.YtmglogncpfoldaaDoor
open Go.RowKit Go.Deep

theorem Ans.none (B : Nat) (w : World) (p : Option Addr) (h : ∀ a, p = some a → B ≤ a.block) : Ans B w p [] 0 := ⟨Lies.nil _ _, Nm.Limbs.nil, rfl, rfl, fun a ha => ⟨h a ha, fun h0 => absurd h0 (by simp)⟩⟩

set_option maxRecDepth 20000 in
set_option maxHeartbeats 4000000 in
theorem refSum_any (p : Option Addr) (n cap : Nat) (its : List Item) (w : World) (hn : its.length = n) (hc : n ≤ cap) (hm : n ≤ 1048577) (hp : Holds w p its) (hi : Items w its) :
    Calls Tryd.prog 29 #[.slice p n cap] w fun e w' => SumSays w its e w' := by
  have LN := hid hn
  have bm := (Below.refl w.heap.size w).alloc (Nat.le_refl _) (.cells #[] 28)
  have HI := hid (hi.below bm (Nat.le_refl _))
  have hp2 := hp.below bm (Nat.le_refl _)
  obtain ⟨wm, WM⟩ : ∃ wm, Hid (w.alloc (.cells #[] 28) = wm) := ⟨_, rfl⟩
  rw [WM.out] at hp2 HI bm
  have BM := hid bm
  clear hn hi hp bm
  rcases hp2 with rfl | ⟨b, off, rfl, hcell⟩
  · have hn0 : n = 0 := by simpa using LN.out.symm
    subst hn0
    go_enter Tryd.func29, Tryd.ntmps29
    go_wp2
    rw [WM.out]
    refine wp_loop_rounds 1 ?_
    rw [rounds_succ]
    go_wp2
    refine wp_loop_rounds 1 ?_
    rw [rounds_succ]
    go_wp2_with fail
    refine (refBig_is false _ 0 0 [] wm ⟨rfl, Nat.le_refl _, by omega, Lies.nil _ _, Nm.Limbs.nil⟩ (by simp [Nm.tsize])).mono ?_
    rintro e w' ⟨rfl, rfl⟩
    go_wp2
    go_ret2
    exact ⟨.inr ⟨⟨by simp, Nm.pw_pos 4096⟩, _, [], rfl, Ans.none _ _ _ (fun a h => by cases h; exact Nat.le_refl _)⟩, BM.out⟩
  · have HC := hid hcell
    clear hcell
    go_enter Tryd.func29, Tryd.ntmps29
    go_wp2
    rw [WM.out]
    go_loop [5] (fun i => ∃ j : Nat, j ≤ n ∧ i = .int .i64 j ∧ Hid (∀ it ∈ its.take j, Nm.tsize it.zs ≤ 4096)) (fun i => n - (intOf i).toNat)
    case atStart => exact ⟨0, Nat.zero_le _, rfl, by simp [Hid]⟩
    case round =>
      obtain ⟨j, hj, rfl, HM⟩ := hrel
      by_cases hlt : j < n
      · obtain ⟨it, IT⟩ : ∃ it, Hid (its[j]? = some it) := item_at its j (by have := LN.out; omega)
        have ar := HI.out.at IT.out
        obtain ⟨q, m, c, zs⟩ := it
        simp only at ar
        have hcl := HC.out j _ IT.out
        simp only at hcl
        have AR := hid ar
        have hlt' : (j : Int) < (n : Int) := by omega
        clear ar
        by_cases hb : 4096 < Nm.tsize zs
        · have BG := hid hb
          go_wp2_with fail
          refine (refBig_is true q m c zs _ AR.out (by simpa using hb)).mono ?_
          rintro e w' ⟨rfl, rfl⟩
          clear hb
          have E : Hid (SumSays w its (.returned (.tuple #[.slice none 0 0, .int .i64 2])) w') := ⟨.inl ⟨.inl ⟨_, List.mem_of_getElem? IT.out, BG.out⟩, rfl⟩, BM.out⟩
          go_wp2
          go_ret2
          exact E.out
        · have BG : Hid (Nm.tsize zs ≤ 4096) := by show _ ≤ _; omega
          go_wp2_with fail
          refine (refBig_is false q m c zs _ AR.out (by simp; omega)).mono ?_
          rintro e w' ⟨rfl, rfl⟩
          clear hb
          go_wp2
          go_round
          case rel =>
            refine ⟨j + 1, by omega, by go_num, ?_⟩
            intro it hit
            rw [List.take_add_one, IT.out] at hit
            rcases List.mem_append.1 hit with h | h
            · exact HM.out it h
            · obtain rfl : it = _ := by simpa using h
              exact BG.out
          case measure => simp [intOf]; omega
      · obtain rfl : j = n := by omega
        have ALL : Hid (∀ it ∈ its, Nm.tsize it.zs ≤ 4096) := by have := HM.out; rw [List.take_of_length_le (by have := LN.out; omega)] at this; exact this
        clear HM hlt
        have TB : Hid (∀ i, i ≤ j → tot (its.take i) < Nm.pw 4097) := by
          intro i hi'
          have h := tot_bd (M := 4096) (its.take i) (fun x hx => HI.out x (List.mem_of_mem_take hx)) (fun x hx => ALL.out x (List.mem_of_mem_take hx))
          have hp := Nm.pw_pos 4096
          rw [Nm.pw_succ]
          have hl : ((its.take i).length : Int) ≤ 1048577 := by rw [List.length_take]; omega
          have := Int.mul_le_mul_of_nonneg_right hl (show 0 ≤ Nm.pw 4096 by omega)
          omega
        go_wp2
        go_loopw [4, 6] (fun s i wr => ∃ (k : Nat) (r : Option Addr) (os : List Int), k ≤ j ∧ i = .int .i64 k ∧ s = .slice r (List.length os) (List.length os) ∧ os.length ≤ 4097 ∧ Hid (Ans w.heap.size wr r os (tot (its.take k))) ∧ Hid (Below wm.heap.size wm wr)) (fun _ i _ => j - (intOf i).toNat)
        case atStart => exact ⟨0, _, [], Nat.zero_le _, rfl, rfl, by simp, Ans.none _ _ _ (fun a h => by cases h; exact Nat.le_refl _), Below.refl _ _⟩
        case round =>
          obtain ⟨k, r, os, hk, rfl, rfl, hos, A, B⟩ := hrel
          by_cases hlt : k < j
          · obtain ⟨it, IT⟩ : ∃ it, Hid (its[k]? = some it) := item_at its k (by have := LN.out; omega)
            have ar := (HI.out.at IT.out).below B.out (Nat.le_refl _)
            have sm := ALL.out _ (List.mem_of_getElem? IT.out)
            obtain ⟨q, m, c, zs⟩ := it
            simp only at ar sm
            have hcl := (B.out.cell (p := ⟨b, off + k, none⟩) (cell_lt (HC.out k _ IT.out))).trans (HC.out k _ IT.out)
            simp only at hcl
            have T0 := tot_take_succ its k _ IT.out
            simp only at T0
            have T1 := hid T0
            have AR := hid ar
            have hlt' : (k : Int) < (j : Int) := by omega
            clear ar T0
            go_wp2_with fail
            refine (plus_any r q _ _ m c os zs _ (A.out.arg (by omega)) AR.out (by have := Nm.tsize_le os; omega) (by omega)).mono ?_
            rintro e w2 ⟨r2, o2, rfl, hA, hb⟩
            rw [A.out.2.2.2.1, ← T1.out] at hA
            have LT : Hid (o2.length ≤ 4097) := by
              have h1 := (Nm.tsize_le_iff hA.2.1 4097).2 (by rw [hA.2.2.2.1]; exact TB.out (k + 1) (by omega))
              rw [hA.2.2.1] at h1
              exact h1
            have WS : Hid (w.heap.size ≤ wr.heap.size) := by
              have h1 := BM.out.size
              have h2 := B.out.size
              show _ ≤ _
              omega
            have A2 := hid (hA.mono WS.out)
            have B2 := hid (chain B.out hb (Nat.le_refl _))
            clear hA hb
            go_wp2
            go_roundw
            case rel => exact ⟨k + 1, r2, o2, by omega, by go_num, rfl, LT.out, A2.out, B2.out⟩
            case measure => simp [intOf]; omega
          · obtain rfl : k = j := by omega
            have a := A.out
            rw [List.take_of_length_le (by have := LN.out; omega)] at a
            have A2 := hid a
            have TI : Hid (tot its < Nm.pw 4096 ↔ Nm.tsize os ≤ 4096) := by rw [Hid, ← a.2.2.2.1]; exact (Nm.tsize_le_iff a.2.1 4096).symm
            have D := hid (BM.out.trans (B.out.mono BM.out.size))
            have hlt' : ¬ (k : Int) < (k : Int) := by omega
            clear A a
            by_cases hbig : 4096 < Nm.tsize os
            · have E : Hid (SumSays w its (.returned (.tuple #[.slice none 0 0, .int .i64 2])) wr) := ⟨.inl ⟨.inr (by have := TI.out; omega), rfl⟩, D.out⟩
              have BB := hid (refBig_is true r _ _ os wr (A2.out.arg (by omega)) (by simpa using hbig))
              clear hbig
              go_wp2_with fail
              refine BB.out.mono ?_
              rintro e w' ⟨rfl, rfl⟩
              go_wp2
              go_ret2
              exact E.out
            · have E : Hid (SumSays w its (.returned (.tuple #[.slice r (List.length os) (List.length os), .int .i64 0])) wr) := ⟨.inr ⟨⟨ALL.out, by have := TI.out; omega⟩, r, os, rfl, A2.out⟩, D.out⟩
              have BB := hid (refBig_is false r _ _ os wr (A2.out.arg (by omega)) (by simp; omega))
              clear hbig
              go_wp2_with fail
              refine BB.out.mono ?_
              rintro e w' ⟨rfl, rfl⟩
              go_wp2
              go_ret2
              exact E.out
end Go.Proofs.YtmglogncpfoldaaDoor
