/-
  THE WALKS OF nat's SMALL FUNCTIONS: trimmed, limited, limitedPair, widened, sign.
-/
import Derived.Test.YtmihjiiagpkciaaDoorMem
namespace Go.Proofs.YtmihjiiagpkciaaDoor
open Go.RowKit Go.Deep

theorem ret_slice {p : Option Addr} {a b : Nat} (h : a = b) : Ending.returned (.slice p a a) = .returned (.slice p b b) := by rw [h]

set_option maxHeartbeats 400000 in
theorem trimmed_any (p : Option Addr) (n cap : Nat) (zs : List Int) (w : World) (hn : zs.length = n) (hc : n ≤ cap) (hm : cap ≤ 140737488355328) (h : Lies w p zs) :
    Calls Tryd.prog 55 #[.slice p n cap] w fun e w' => e = .returned (.slice p (Nm.tsize zs) (Nm.tsize zs)) ∧ w' = w := by
  rcases h with rfl | ⟨b, off, rfl, hcell⟩
  · have hn0 : n = 0 := by simpa using hn.symm
    subst hn0
    go_enter Tryd.func55, Tryd.ntmps55
    go_wp2
    refine wp_loop_rounds 1 ?_
    rw [rounds_succ]
    go_wp2
    go_ret
    exact ⟨rfl, rfl⟩
  · have H : Hid (zs.length = n) := hn
    have HC : Hid (∀ i, i < zs.length → w.cell? ⟨b, off + i, none⟩ = some (.int .u64 (zs.getD i 0))) := hcell
    clear hn hcell
    go_enter Tryd.func55, Tryd.ntmps55
    go_wp2
    go_loop [3] (fun t => ∃ k : Nat, k ≤ n ∧ t = .int .i64 k ∧ Hid (∀ j, k ≤ j → zs.getD j 0 = 0)) (fun t => (intOf t).toNat)
    case atStart => exact ⟨n, Nat.le_refl _, rfl, fun j hj => by simp [List.getD, List.getElem?_eq_none (show zs.length ≤ j by have := H.out; omega)]⟩
    case round =>
      obtain ⟨k, hk, rfl, hz⟩ := hrel
      by_cases h0 : k = 0
      · subst h0
        go_wp2
        go_ret
        exact ⟨ret_slice (Nm.tsize_unique zs 0 hz.out (.inl rfl)).symm, rfl⟩
      · obtain ⟨j, rfl⟩ : ∃ j, k = j + 1 := ⟨k - 1, by omega⟩
        obtain ⟨x, hx, X⟩ : ∃ x, w.cell? ⟨b, off + j, none⟩ = some (.int .u64 x) ∧ Hid (x = zs.getD j 0) := ⟨_, HC.out j (by have := H.out; omega), rfl⟩
        by_cases hx0 : x = 0
        · subst hx0
          go_wp2
          go_round
          case rel =>
            refine ⟨j, by omega, rfl, fun i hi => ?_⟩
            by_cases e : i = j
            · subst e; exact X.out.symm
            · exact hz.out i (by omega)
          case measure => simp [intOf]
        · go_wp2
          go_ret
          exact ⟨ret_slice (Nm.tsize_unique zs (j + 1) hz.out (.inr (by rw [Nat.add_sub_cancel, ← X.out]; exact hx0))).symm, rfl⟩

/-- Of an operand that is not too big: trimmed, to be read. -/
theorem limited_ok (p : Option Addr) (n cap : Nat) (zs : List Int) (w : World) (hn : zs.length = n) (hc : n ≤ cap) (hm : cap ≤ 140737488355328) (h : Lies w p zs) (hs : Nm.tsize zs ≤ 4096) :
    Calls Tryd.prog 53 #[.slice p n cap] w fun e w' => e = .returned (.tuple #[.slice p (Nm.tsize zs) (Nm.tsize zs), .int .i64 0]) ∧ w' = w := by
  have hsz : (Nm.tsize zs : Int) ≤ 4096 := by omega
  go_enter Tryd.func53, Tryd.ntmps53
  go_wp2_with (go_at_call 55; refine (trimmed_any p n cap zs _ hn hc hm h).mono ?_; rintro e w' ⟨rfl, rfl⟩)
  go_ret2
  exact ⟨rfl, rfl⟩

theorem limited_big (p : Option Addr) (n cap : Nat) (zs : List Int) (w : World) (hn : zs.length = n) (hc : n ≤ cap) (hm : cap ≤ 140737488355328) (h : Lies w p zs) (hs : 4096 < Nm.tsize zs) :
    Calls Tryd.prog 53 #[.slice p n cap] w fun e w' => e = .returned (.tuple #[.slice none 0 0, .int .i64 2]) ∧ w' = w := by
  have hsz : (4096 : Int) < (Nm.tsize zs : Int) := by omega
  go_enter Tryd.func53, Tryd.ntmps53
  go_wp2_with (go_at_call 55; refine (trimmed_any p n cap zs _ hn hc hm h).mono ?_; rintro e w' ⟨rfl, rfl⟩)
  go_ret2
  exact ⟨rfl, rfl⟩

/-- A copy with m limbs 0 on top, in a new block. -/
theorem widened_any (p : Option Addr) (n cap m : Nat) (mi : Int) (zs : List Int) (w : World) (hmi : mi = (m : Int)) (hn : zs.length = n) (hnm : n + m ≤ 35184372088832) (h : Lies w p zs) :
    Calls Tryd.prog 57 #[.slice p n cap, .int .i64 mi] w fun e w' => e = .returned (.slice (some ⟨w.heap.size, 0, none⟩) (n + m) (n + m)) ∧ Own w' w.heap.size (zs ++ List.replicate m 0) ∧ Below w.heap.size w w' ∧ w'.heap.size = w.heap.size + 1 := by
  subst hmi
  have hmk := make64 (n + m) hnm w
  have em : ((n + m : Nat) : Int) = (n : Int) + (m : Int) := by omega
  rw [em] at hmk
  clear em
  have hb0 : Below w.heap.size w (w.alloc (.cells (madeCells #[.int .u64 0] (n + m)) 26)) := (Below.refl _ _).alloc (Nat.le_refl _) _
  have ho : Own (w.alloc (.cells (madeCells #[.int .u64 0] (n + m)) 26)) w.heap.size (List.replicate (n + m) 0) := by
    rw [made_zero]; exact Own.alloc w _
  obtain ⟨w1, hcp, ho1, hb1, hz1⟩ := copy64 w.heap.size (n + m) (List.replicate (n + m) 0) p n cap zs 3 _ (by simp) hn (by omega) ho (h.below hb0 (Nat.le_refl _))
  have E : Hid (Own w1 w.heap.size (zs ++ List.replicate m 0)) := by
    have e : List.drop n (List.replicate (n + m) (0 : Int)) = List.replicate m 0 := by simp
    rw [e] at ho1
    exact ho1
  have F : Hid (Below w.heap.size w w1) := hb0.trans hb1
  have G : Hid (w1.heap.size = w.heap.size + 1) := hz1.trans (World.size_alloc _ _)
  clear hb0 ho ho1 hb1 hz1 h hn
  go_enter Tryd.func57, Tryd.ntmps57
  go_wp2
  go_ret
  exact ⟨rfl, E.out, F.out, G.out⟩

theorem pair_ok (p q : Option Addr) (n cap m cap' : Nat) (zs ys : List Int) (w : World) (hn : zs.length = n) (hc : n ≤ cap) (hm : cap ≤ 140737488355328) (h : Lies w p zs) (hs : Nm.tsize zs ≤ 4096)
    (hn' : ys.length = m) (hc' : m ≤ cap') (hm' : cap' ≤ 140737488355328) (h' : Lies w q ys) (hs' : Nm.tsize ys ≤ 4096) :
    Calls Tryd.prog 61 #[.slice p n cap, .slice q m cap'] w fun e w' => e = .returned (.tuple #[.slice p (Nm.tsize zs) (Nm.tsize zs), .slice q (Nm.tsize ys) (Nm.tsize ys), .int .i64 0]) ∧ w' = w := by
  go_enter Tryd.func61, Tryd.ntmps61
  go_wp2_with fail
  refine (limited_ok p n cap zs _ hn hc hm h hs).mono ?_
  rintro e w' ⟨rfl, rfl⟩
  go_wp2_with fail
  refine (limited_ok q m cap' ys _ hn' hc' hm' h' hs').mono ?_
  rintro e w' ⟨rfl, rfl⟩
  go_wp2_with fail
  go_ret3
  exact ⟨rfl, rfl⟩

theorem pair_big (p q : Option Addr) (n cap m cap' : Nat) (zs ys : List Int) (w : World) (hn : zs.length = n) (hc : n ≤ cap) (hm : cap ≤ 140737488355328) (h : Lies w p zs)
    (hn' : ys.length = m) (hc' : m ≤ cap') (hm' : cap' ≤ 140737488355328) (h' : Lies w q ys) (hs : 4096 < Nm.tsize zs ∨ 4096 < Nm.tsize ys) :
    Calls Tryd.prog 61 #[.slice p n cap, .slice q m cap'] w fun e w' => e = .returned (.tuple #[.slice none 0 0, .slice none 0 0, .int .i64 2]) ∧ w' = w := by
  by_cases h1 : 4096 < Nm.tsize zs
  · go_enter Tryd.func61, Tryd.ntmps61
    go_wp2_with fail
    refine (limited_big p n cap zs _ hn hc hm h h1).mono ?_
    rintro e w' ⟨rfl, rfl⟩
    go_wp2_with fail
    go_ret3
    exact ⟨rfl, rfl⟩
  · have h2 : 4096 < Nm.tsize ys := by omega
    go_enter Tryd.func61, Tryd.ntmps61
    go_wp2_with fail
    refine (limited_ok p n cap zs _ hn hc hm h (by omega)).mono ?_
    rintro e w' ⟨rfl, rfl⟩
    go_wp2_with fail
    refine (limited_big q m cap' ys _ hn' hc' hm' h' h2).mono ?_
    rintro e w' ⟨rfl, rfl⟩
    go_wp2_with fail
    go_ret3
    exact ⟨rfl, rfl⟩

/-- Of a list of our own: answered trimmed, if it isn't too big. -/
theorem limited_own (g n : Nat) (zs : List Int) (w : World) (hn : zs.length = n) (hm : n ≤ 140737488355328) (h : Own w g zs) (hl : Nm.Limbs zs) (B : Nat) (hB : B ≤ g) (hs : Nm.val zs < Nm.pw 4096) :
    Calls Tryd.prog 53 #[.slice (some ⟨g, 0, none⟩) n n] w fun e w' => ∃ p ys, e = .returned (.tuple #[.slice p (List.length ys) (List.length ys), .int .i64 0]) ∧ Ans B w p ys (Nm.val zs) ∧ w' = w := by
  refine (limited_ok (some ⟨g, 0, none⟩) n n zs w hn (Nat.le_refl _) hm h.lies ((Nm.tsize_le_iff hl 4096).2 hs)).mono ?_
  rintro e w' ⟨rfl, rfl⟩
  refine ⟨some ⟨g, 0, none⟩, Nm.trim zs, ?_, ⟨h.lies.take _, hl.take _, ?_, Nm.val_trim zs, ?_⟩, rfl⟩
  · rw [Nm.trim_length]
  · rw [Nm.trim_trim, Nm.trim_length]
  · intro a ha
    cases ha
    exact ⟨hB, fun _ o => h.free o⟩

theorem limited_own_big (g n : Nat) (zs : List Int) (w : World) (hn : zs.length = n) (hm : n ≤ 140737488355328) (h : Own w g zs) (hl : Nm.Limbs zs) (hs : Nm.pw 4096 ≤ Nm.val zs) :
    Calls Tryd.prog 53 #[.slice (some ⟨g, 0, none⟩) n n] w fun e w' => e = .returned (.tuple #[.slice none 0 0, .int .i64 2]) ∧ w' = w := by
  refine limited_big (some ⟨g, 0, none⟩) n n zs w hn (Nat.le_refl _) hm h.lies ?_
  have := Nm.tsize_le_iff hl 4096
  omega

end Go.Proofs.YtmihjiiagpkciaaDoor
