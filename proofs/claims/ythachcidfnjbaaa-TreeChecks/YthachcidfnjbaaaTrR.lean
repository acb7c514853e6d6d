/-
  tree and abacusref24: Check, Depth.
-/
import Derived.Test.YthachcidfnjbaaaTrQ
namespace Go.Proofs.Ythachcidfnjbaaa
open Go Go.RowKit Go.Deep

set_option maxHeartbeats 1000000 in
theorem tcheck_any (p : Option Addr) (cap : Nat) (l : List Tr.Nd) (w : World) (h : Tr.LN w p l) (hl : l.length ≤ 9223372036854775807) :
    Calls Try.prog 7 #[.agg #[.slice p l.length cap]] w fun e w' => e = .returned (.tuple #[.int .i64 (Tr.lk l).2.1, .int .i64 (Tr.lk l).2.2]) ∧ Below w.heap.size w w' := by
  have LO := hid (fun W (hW : Below w.heap.size w W) => tlook_any p cap l W (h.on hW) hl)
  have BB := hid (alloc_b w (.cells #[.slice p l.length cap] 24))
  generalize Tr.lk l = r at *
  clear h hl
  generalize l.length = N at *
  go_enter Try.func7, Try.ntmps7
  go_wp2_with (go_at_call 11; refine (LO.out _ BB.out).mono ?_; rintro e w2 ⟨rfl, hB⟩)
  go_ret2
  exact ⟨rfl, below_on BB.out hB⟩
set_option maxHeartbeats 1000000 in
theorem tdepth_any (p : Option Addr) (cap : Nat) (l : List Tr.Nd) (w : World) (h : Tr.LN w p l) (hl : l.length ≤ 9223372036854775807) :
    Calls Try.prog 14 #[.agg #[.slice p l.length cap]] w fun e w' => e = .returned (.tuple #[.int .i64 (Tr.lk l).1, .int .i64 (Tr.lk l).2.2]) ∧ Below w.heap.size w w' := by
  have LO := hid (fun W (hW : Below w.heap.size w W) => tlook_any p cap l W (h.on hW) hl)
  have BB := hid (alloc_b w (.cells #[.slice p l.length cap] 24))
  generalize Tr.lk l = r at *
  clear h hl
  generalize l.length = N at *
  go_enter Try.func14, Try.ntmps14
  go_wp2_with (go_at_call 11; refine (LO.out _ BB.out).mono ?_; rintro e w2 ⟨rfl, hB⟩)
  go_ret2
  exact ⟨rfl, below_on BB.out hB⟩
namespace Tr
theorem fs_at {N : Int} {ds : List Int} {i : Nat} {d : Int} (h : ds[i]? = some d) (hd : 200 < d) (hl : ∀ j e, j < i → ds[j]? = some e → e ≤ 200) : fs N ds = (i : Int) := by
  unfold fs
  have : ds.findIdx? (fun d => decide (200 < d)) = some i := by
    rw [List.findIdx?_eq_some_iff_getElem]
    obtain ⟨h1, h2⟩ := List.getElem?_eq_some_iff.1 h
    refine ⟨h1, by rw [h2]; exact decide_eq_true hd, fun j hj => ?_⟩
    have := hl j _ hj (List.getElem?_eq_getElem (by omega))
    simp
    omega
  rw [this]
  rfl
theorem fs_no {N : Int} {ds : List Int} (hl : ∀ d ∈ ds, d ≤ 200) : fs N ds = N := by
  unfold fs
  have : ds.findIdx? (fun d => decide (200 < d)) = none := by
    rw [List.findIdx?_eq_none_iff]
    intro d hd
    have := hl d hd
    simp
    omega
  rw [this]
  rfl
theorem ri_end {l : List Nd} {N : Nat} {Rs : List Nat} {ds : List Int} (h : RI l N N Rs ds) (hN : l.length = N) : lk l = if Rs.length ≠ 1 then (0, (N : Int), 243) else if fs N ds < N then (0, fs N ds, 241) else (ds.getD (N - 1) 0, 0, 0) := by
  rw [← h.ans, List.drop_of_length_le (by omega), go, rwv_len]
  by_cases e : Rs.length ≠ 1
  · rw [if_pos e, if_pos e]
  · rw [if_neg e, if_neg e]
    by_cases z : fs N ds < N
    · rw [if_pos z, if_pos z]
    · rw [if_neg z, if_neg z]
      have e1 : Rs.length = 1 := by omega
      obtain ⟨a, ha⟩ : ∃ a, Rs = [a] := by
        match Rs, e1 with
        | [a], _ => exact ⟨a, rfl⟩
      have n0 : 0 < N := by have := h.rl; omega
      have la := h.last n0
      rw [ha] at la ⊢
      simp only [List.getLast?_singleton, Option.some.injEq] at la
      rw [la]
      rfl
theorem go_zero (N : Int) : ∀ (l : List Nd) (r : List (Int × Int)) (k : Nat) (d : Int), ¬ (go N l r k d).2.2 = 0 → (go N l r k d).1 = 0
  | [], r, k, d, h => by
    rw [go] at h ⊢
    split at h
    · rename_i z; rw [if_pos z]
    · rename_i z
      rw [if_neg z]
      split at h
      · rename_i y; rw [if_pos y]
      · exact absurd rfl h
  | x :: l, r, k, d, h => by
    rw [go] at h ⊢
    split at h
    · rename_i z; rw [if_pos z]; exact go_zero N l _ _ _ h
    · rename_i z; rw [if_neg z]
theorem lk_zero (l : List Nd) (h : ¬ (lk l).2.2 = 0) : (lk l).1 = 0 := by
  unfold lk at h ⊢
  split at h
  · rename_i z; rw [if_pos z]
  · rename_i z; rw [if_neg z]; exact go_zero _ _ _ _ _ h
end Tr

theorem bx1 {w : World} {b t : Nat} {v0 : Value} (h : Bx w b t #[v0]) : w.cell? ⟨b, 0, none⟩ = some v0 := by
  simp only [Bx] at h
  simp [World.cell?, h]
set_option maxRecDepth 100000 in
set_option maxHeartbeats 2000000 in
theorem rcheck_any (p : Option Addr) (cap : Nat) (l : List Tr.Nd) (w : World) (h : Tr.LN w p l) (hl : l.length ≤ 9223372036854775807) :
    Calls Try.prog 6 #[.agg #[.slice p l.length cap]] w fun e w' => e = .returned (.tuple #[.int .i64 (Tr.lk l).2.1, .int .i64 (Tr.lk l).2.2]) ∧ Below w.heap.size w w' := by
  obtain ⟨N, hN⟩ : ∃ N, l.length = N := ⟨_, rfl⟩
  have hb : (N : Int) ≤ 9223372036854775807 := by omega
  have BB := hid (alloc_b w (.cells #[.slice p N cap] 24))
  have TB := hid (Bx.new w 24 #[.slice p N cap])
  by_cases h0 : 10000 < N
  · have e : Tr.lk l = (0, 10000, 242) := by rw [Tr.lk, if_pos (by omega)]
    rw [e, hN]
    have h1 : (10000 : Int) < (N : Int) := by omega
    clear e h
    go_enter Try.func6, Try.ntmps6
    go_wp2_with fail
    go_ret2
    exact ⟨rfl, BB.out⟩
  · have h1 : ¬ (10000 : Int) < (N : Int) := by omega
    have DE := hid (fun W (hW : Below w.heap.size w W) => rdepths_any p cap l W (h.on hW) (by omega))
    rw [hN] at DE ⊢
    clear h
    go_enter Try.func6, Try.ntmps6
    go_upto_region 4 with (go_at_call 10; refine (DE.out _ BB.out).mono ?_; rintro e w2 ⟨dv, at_, left, rfl, hB, T⟩; have T2 := hid T; have c0 := bx1 (TB.out.on hB); have B2 := hid (below_on BB.out hB); clear hB T)
    rcases T2.out with ⟨k, k1, rfl, k2⟩ | ⟨rfl, Rs, ds, ri, rfl, ow⟩
    · have K2 := hid k2
      have k3 : (k : Int) < (N : Int) := by omega
      clear T2 DE k2
      go_wp2_with fail
      go_ret2
      rw [K2.out]
      exact ⟨rfl, B2.out⟩
    · have E := Tr.ri_end ri hN
      have hdl := ri.len
      have hbd := hid ri.bd
      have rl := ri.rl
      have lb : (Rs.length : Int) ≤ 10000 := by omega
      by_cases hR : Rs.length = 1
      · rw [if_neg (by omega)] at E
        have hR2 : (Rs.length : Int) = 1 := by omega
        have h6 : ∃ g c, dv = .slice (some ⟨g, 0, none⟩) N c := by
          rcases ow.shape0 with ⟨e, z⟩ | ⟨g, c, e, _⟩
          · rw [z] at hdl; simp at hdl; omega
          · exact ⟨g, c, by rw [e, hdl]⟩
        obtain ⟨g, c, rfl⟩ := h6
        have OW := hid ow
        have HE := hid E
        clear E ow ri T2 DE
        rw [hR2]
        go_wp2_with fail
        go_loopg [7] N (fun m iv wr => ∃ i : Nat, i + m = N ∧ iv = .int .i64 (i : Int) ∧ Hid (wr = w2 ∧ ∀ j e, j < i → ds[j]? = some e → e ≤ 200))
        case atStart => exact ⟨0, by omega, rfl, rfl, fun j e z => absurd z (by omega)⟩
        case round =>
          obtain ⟨i, hi, rfl, hw⟩ := hrel
          by_cases il : i < N
          · have ili : (i : Int) < (N : Int) := by omega
            obtain ⟨d, hd⟩ : ∃ d, ds[i]? = some d := ⟨_, List.getElem?_eq_getElem (by omega)⟩
            have d6 : wr.cell? ⟨g, i, none⟩ = some (.int .i64 d) := by
              have := OW.out.cell Tr.ei_len hd 0 (by omega) _ rfl
              rw [hw.out.1]
              simpa using this
            by_cases hc : 200 < d
            · have e : Hid (Tr.lk l = (0, (i : Int), 241)) := by
                rw [Hid, HE.out, Tr.fs_at hd hc hw.out.2, if_pos ili]
              clear HE OW
              go_wp2_with fail
              go_ret2
              rw [e.out]
              exact ⟨rfl, by rw [hw.out.1]; exact B2.out⟩
            · have H2 : Hid (wr = w2 ∧ ∀ j e, j < i + 1 → ds[j]? = some e → e ≤ 200) := ⟨hw.out.1, fun j e hj he => by
                by_cases z : j = i
                · subst z; rw [hd] at he; cases he; omega
                · exact hw.out.2 j e (by omega) he⟩
              have ib : (i : Int) ≤ 10000 := by omega
              clear HE OW hw
              go_wp2_with fail
              go_roundg (N - (i + 1))
              case measure => omega
              case rel => exact ⟨i + 1, by omega, by go_num, H2⟩
          · obtain rfl : i = N := by omega
            have ili : ¬ (i : Int) < (i : Int) := by omega
            have e : Hid ((Tr.lk l).2.1 = 0 ∧ (Tr.lk l).2.2 = 0) := by
              have f := Tr.fs_no (N := (i : Int)) (ds := ds) (fun d hd => by
                obtain ⟨j, hj⟩ := List.getElem?_of_mem hd
                exact hw.out.2 j d (by have := (List.getElem?_eq_some_iff.1 hj).1; omega) hj)
              rw [Hid, HE.out, f, if_neg (by omega)]
              exact ⟨rfl, rfl⟩
            clear HE OW
            go_wp2_with fail
            go_ret2
            rw [e.out.1, e.out.2]
            exact ⟨rfl, by rw [hw.out.1]; exact B2.out⟩
      · rw [if_pos (by omega)] at E
        have HE := hid E
        have hR2 : ¬ (Rs.length : Int) = 1 := by omega
        clear E T2 DE ow ri hbd hdl
        generalize Rs.length = M at *
        go_wp2_with fail
        go_ret2
        rw [HE.out]
        exact ⟨rfl, B2.out⟩
set_option maxRecDepth 100000 in
set_option maxHeartbeats 2000000 in
theorem rdepth_any (p : Option Addr) (cap : Nat) (l : List Tr.Nd) (w : World) (h : Tr.LN w p l) (hl : l.length ≤ 9223372036854775807) :
    Calls Try.prog 13 #[.agg #[.slice p l.length cap]] w fun e w' => e = .returned (.tuple #[.int .i64 (Tr.lk l).1, .int .i64 (Tr.lk l).2.2]) ∧ Below w.heap.size w w' := by
  obtain ⟨N, hN⟩ : ∃ N, l.length = N := ⟨_, rfl⟩
  have hb : (N : Int) ≤ 9223372036854775807 := by omega
  have BB := hid (alloc_b w (.cells #[.slice p N cap] 24))
  have TB := hid (Bx.new w 24 #[.slice p N cap])
  have CH := hid (fun W (hW : Below w.heap.size w W) => rcheck_any p cap l W (h.on hW) hl)
  have Z : Hid (¬ (Tr.lk l).2.2 = 0 → (Tr.lk l).1 = 0) := fun z => Tr.lk_zero l z
  have c9 : w.heap.size < w.heap.size + 1 := Nat.lt_succ_self _
  by_cases hz : (Tr.lk l).2.2 = 0
  · have h0 : ¬ 10000 < N := fun z => by
      have e : Tr.lk l = (0, 10000, 242) := by rw [Tr.lk, if_pos (by omega)]
      rw [e] at hz
      cases hz
    have DE := hid (fun W (hW : Below w.heap.size w W) => rdepths_any p cap l W (h.on hW) (by omega))
    rw [hN] at DE CH ⊢
    rw [hz]
    rw [hz] at CH
    clear h Z
    go_enter Try.func13, Try.ntmps13
    go_upto_region 5 with (first
      | (go_at_call 6; refine (CH.out _ BB.out).mono ?_; rintro e w2 ⟨rfl, hB⟩; have c0 := bx1 (TB.out.on hB); have B2 := hid (below_on BB.out hB); clear hB)
      | (go_at_call 10; refine (DE.out _ B2.out).mono ?_; rintro e w3 ⟨dv, at_, left, rfl, hB, T⟩; have T2 := hid T; have B3 := hid (below_on B2.out hB); clear hB T))
    rcases T2.out with ⟨k, k1, rfl, k2⟩ | ⟨rfl, Rs, ds, ri, rfl, ow⟩
    · rw [k2] at hz; cases hz
    · have E := Tr.ri_end ri hN
      have hdl := ri.len
      have rl := ri.rl
      by_cases hR : Rs.length ≠ 1
      · rw [if_pos hR] at E; rw [E] at hz; cases hz
      · rw [if_neg hR] at E
        by_cases hf : Tr.fs N ds < N
        · rw [if_pos hf] at E; rw [E] at hz; cases hz
        · rw [if_neg hf] at E
          have n0 : 0 < N := by omega
          obtain ⟨M, rfl⟩ : ∃ M, N = M + 1 := ⟨N - 1, by omega⟩
          have h6 : ∃ g c, dv = .slice (some ⟨g, 0, none⟩) (M + 1) c := by
            rcases ow.shape0 with ⟨e, z⟩ | ⟨g, c, e, _⟩
            · rw [z] at hdl; simp at hdl
            · exact ⟨g, c, by rw [e, hdl]⟩
          obtain ⟨g, c, rfl⟩ := h6
          obtain ⟨d, hd⟩ : ∃ d, ds[M]? = some d := ⟨_, List.getElem?_eq_getElem (by omega)⟩
          have d6 : w3.cell? ⟨g, M, none⟩ = some (.int .i64 d) := by
            have := ow.cell Tr.ei_len hd 0 (by omega) _ rfl
            simpa using this
          have e1 : (Tr.lk l).1 = d := by
            rw [E]
            show ds.getD (M + 1 - 1) 0 = d
            rw [Nat.add_sub_cancel, List.getD_eq_getElem?_getD, hd]; rfl
          have HE := hid e1
          have mb : (M : Int) ≤ 10000 := by omega
          have ml : (M : Int) < (M : Int) + 1 := by omega
          have m0 : (0 : Int) ≤ (M : Int) := by omega
          clear T2 DE CH ow ri E e1 hd hf hR hN
          go_wp2_with fail
          go_ret2
          rw [HE.out]
          exact ⟨rfl, B3.out⟩
  · have e := Z.out hz
    rw [e, hN]
    rw [hN] at CH
    generalize (Tr.lk l).2.2 = E at *
    generalize (Tr.lk l).2.1 = F at *
    have bz := beq_false_of_ne hz
    clear h Z e
    go_enter Try.func13, Try.ntmps13
    go_wp2_with (go_at_call 6; refine (CH.out _ BB.out).mono ?_; rintro e w2 ⟨rfl, hB⟩)
    go_ret2
    exact ⟨rfl, below_on BB.out hB⟩
end Go.Proofs.Ythachcidfnjbaaa
