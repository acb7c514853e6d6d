/-
  abacuslaw26: same.
-/
import Derived.Test.YtnobafmleellhaaDoorCdRi
namespace Go.Proofs.YtnobafmleellhaaDoor
open Go Go.RowKit Go.Deep Go.Shelf

theorem tr_at {w : World} {p : Option Addr} {l : List ByteArray} (h : TR w p l) {i : Nat} {x : ByteArray} (hx : l[i]? = some x) : ∃ b off, p = some ⟨b, off, none⟩ ∧ w.cell? ⟨b, off + i, none⟩ = some (.string x) := by
  rcases h with rfl | ⟨b, off, e, h⟩
  · simp at hx
  · exact ⟨b, off, e, h i x hx⟩
set_option maxRecDepth 100000 in
set_option maxHeartbeats 8000000 in
theorem csame_yes (l : List Cd.In) (nums : List Int) (strs : List ByteArray) (p q r p' q' r' : Option Addr) (c1 c2 c3 d1 d2 d3 : Nat) (w : World) (hL : Cd.LI w p l) (hQ : Cd.NI w q nums) (hR : TR w r strs) (hL' : Cd.LI w p' l) (hQ' : Cd.NI w q' nums) (hR' : TR w r' strs)
    (n1 : l.length ≤ 9223372036854775807) (n2 : nums.length ≤ 9223372036854775807) (n3 : strs.length ≤ 9223372036854775807) :
    Calls Tryd.prog 15 #[.agg #[.slice p l.length c1, .slice q nums.length c2, .slice r strs.length c3], .agg #[.slice p' l.length d1, .slice q' nums.length d2, .slice r' strs.length d3]] w fun e w' => e = .returned (.bool true) ∧ Below w.heap.size w w' := by
  obtain ⟨y1, y2⟩ := bx_two w #[.slice p l.length c1, .slice q nums.length c2, .slice r strs.length c3] #[.slice p' l.length d1, .slice q' nums.length d2, .slice r' strs.length d3] 31 31
  have B1 := cd_b2 w (.cells #[.slice p l.length c1, .slice q nums.length c2, .slice r strs.length c3] 31) (.cells #[.slice p' l.length d1, .slice q' nums.length d2, .slice r' strs.length d3] 31)
  have S0 : Hid (Below w.heap.size w _ ∧ Bx _ w.heap.size 31 #[.slice p l.length c1, .slice q nums.length c2, .slice r strs.length c3] ∧ Bx _ (w.heap.size + 1) 31 #[.slice p' l.length d1, .slice q' nums.length d2, .slice r' strs.length d3]) := ⟨B1, y1, y2⟩
  have GL : Hid (∀ (W : World) k, Below w.heap.size w W → k < l.length → ∃ x : Cd.In, (∃ b off, p = some ⟨b, off, none⟩ ∧ W.cell? ⟨b, off + k * 3, none⟩ = some (.int .i64 x.w) ∧ W.cell? ⟨b, off + k * 3 + 1, none⟩ = some (.int .i64 x.a) ∧ W.cell? ⟨b, off + k * 3 + 2, none⟩ = some (.int .i64 x.b)) ∧ (∃ b off, p' = some ⟨b, off, none⟩ ∧ W.cell? ⟨b, off + k * 3, none⟩ = some (.int .i64 x.w) ∧ W.cell? ⟨b, off + k * 3 + 1, none⟩ = some (.int .i64 x.a) ∧ W.cell? ⟨b, off + k * 3 + 2, none⟩ = some (.int .i64 x.b))) := fun W k hW hk =>
    ⟨_, hL.below hW (Nat.le_refl _) k _ (List.getElem?_eq_getElem hk), hL'.below hW (Nat.le_refl _) k _ (List.getElem?_eq_getElem hk)⟩
  have GN : Hid (∀ (W : World) k, Below w.heap.size w W → k < nums.length → ∃ x : Int, (∃ b off, q = some ⟨b, off, none⟩ ∧ W.cell? ⟨b, off + k, none⟩ = some (.int .u64 x)) ∧ (∃ b off, q' = some ⟨b, off, none⟩ ∧ W.cell? ⟨b, off + k, none⟩ = some (.int .u64 x))) := fun W k hW hk =>
    ⟨_, hQ.below hW (Nat.le_refl _) k _ (List.getElem?_eq_getElem hk), hQ'.below hW (Nat.le_refl _) k _ (List.getElem?_eq_getElem hk)⟩
  have GS : Hid (∀ (W : World) k, Below w.heap.size w W → k < strs.length → ∃ x : ByteArray, (∃ b off, r = some ⟨b, off, none⟩ ∧ W.cell? ⟨b, off + k, none⟩ = some (.string x)) ∧ (∃ b off, r' = some ⟨b, off, none⟩ ∧ W.cell? ⟨b, off + k, none⟩ = some (.string x))) := fun W k hW hk =>
    ⟨strs[k], tr_at (TR.below hR hW (Nat.le_refl _)) (List.getElem?_eq_getElem hk), tr_at (TR.below hR' hW (Nat.le_refl _)) (List.getElem?_eq_getElem hk)⟩
  have i1 : (l.length : Int) ≤ 9223372036854775807 := by omega
  have i2 : (nums.length : Int) ≤ 9223372036854775807 := by omega
  have i3 : (strs.length : Int) ≤ 9223372036854775807 := by omega
  clear hL hQ hR hL' hQ' hR' y1 y2 B1 n1 n2 n3
  generalize l.length = n at *
  generalize nums.length = N at *
  generalize strs.length = S at *
  obtain ⟨bb, hbb⟩ : ∃ bb, w.heap.size = bb := ⟨_, rfl⟩
  rw [hbb] at S0
  obtain ⟨k0, k1, k2⟩ := bx3 S0.out.2.1
  obtain ⟨j0, j1, j2⟩ := bx3 S0.out.2.2
  go_enter Tryd.func15, Tryd.ntmps15
  go_upto_region 1 with fail
  generalize (w.alloc (.cells #[.slice p n c1, .slice q N c2, .slice r S c3] 31)).alloc (.cells #[.slice p' n d1, .slice q' N d2, .slice r' S d3] 31) = w1 at *
  go_wp2_with fail
  clear k0 k1 k2 j0 j1 j2
  go_loopg [5] n (fun m iv wr => ∃ k : Nat, k + m = n ∧ iv = .int .i64 (k : Int) ∧ Hid (Below bb w wr ∧ Bx wr bb 31 #[.slice p n c1, .slice q N c2, .slice r S c3] ∧ Bx wr (bb + 1) 31 #[.slice p' n d1, .slice q' N d2, .slice r' S d3]))
  case atStart => exact ⟨0, by omega, rfl, S0⟩
  case round =>
    obtain ⟨k, hk, rfl, J⟩ := hrel
    clear S0
    obtain ⟨k0, k1, k2⟩ := bx3 J.out.2.1
    obtain ⟨j0, j1, j2⟩ := bx3 J.out.2.2
    by_cases kl : k < n
    · have kli : (k : Int) < (n : Int) := by omega
      have kd : (k : Int) ≤ 9223372036854775807 := by omega
      have U0 : Hid (Below wr.heap.size wr wr.drew) := Below.drew (Below.refl _ _)
      obtain ⟨x, ⟨b, off, rfl, a0, a1, a2⟩, ⟨b', off', rfl, e0, e1, e2⟩⟩ := GL.out wr.drew k (by rw [hbb]; exact Below.drew J.out.1) kl
      have J2 : Hid (Below bb w wr.drew ∧ Bx wr.drew bb 31 #[.slice (some ⟨b, off, none⟩) n c1, .slice q N c2, .slice r S c3] ∧ Bx wr.drew (bb + 1) 31 #[.slice (some ⟨b', off', none⟩) n d1, .slice q' N d2, .slice r' S d3]) := ⟨Below.drew J.out.1, J.out.2.1.on U0.out, J.out.2.2.on U0.out⟩
      have m0 := (bx3 J2.out.2.1).1
      have m1 := (bx3 J2.out.2.2).1
      obtain ⟨xw, xa, xb⟩ := x
      simp only at a0 a1 a2 e0 e1 e2
      clear J GL GN GS U0
      go_upto_region 6 with fail
      go_region_held3 (fun W => W.cell? ⟨bb, 0, none⟩ = some (.slice (some ⟨b, off, none⟩) n c1) ∧ W.cell? ⟨bb + 1, 0, none⟩ = some (.slice (some ⟨b', off', none⟩) n d1) ∧ W.cell? ⟨b, off + k * 3, none⟩ = some (.int .i64 xw) ∧ W.cell? ⟨b, off + k * 3 + 1, none⟩ = some (.int .i64 xa) ∧ W.cell? ⟨b, off + k * 3 + 2, none⟩ = some (.int .i64 xb) ∧ W.cell? ⟨b', off' + k * 3, none⟩ = some (.int .i64 xw) ∧ W.cell? ⟨b', off' + k * 3 + 1, none⟩ = some (.int .i64 xa) ∧ W.cell? ⟨b', off' + k * 3 + 2, none⟩ = some (.int .i64 xb)) (with_reducible exact ⟨m0, m1, a0, a1, a2, e0, e1, e2⟩) (fail)
      all_goals
        clear m0 m1 a0 a1 a2 e0 e1 e2 k0 k1 k2 j0 j1 j2
        generalize wr.drew = w9 at *
        go_wp2_with fail
        go_roundg (n - (k + 1))
        case measure => omega
        case rel => exact ⟨k + 1, by omega, by go_num, J2⟩
    · have kli : ¬ (k : Int) < (n : Int) := by omega
      have S1 := hid J.out
      clear GL J kl hk
      go_wp2_with fail
      clear k0 k1 k2 j0 j1 j2
      go_loopg [6] N (fun m iv wr => ∃ k : Nat, k + m = N ∧ iv = .int .i64 (k : Int) ∧ Hid (Below bb w wr ∧ Bx wr bb 31 #[.slice p n c1, .slice q N c2, .slice r S c3] ∧ Bx wr (bb + 1) 31 #[.slice p' n d1, .slice q' N d2, .slice r' S d3]))
      case atStart => exact ⟨0, by omega, rfl, S1⟩
      case round =>
        obtain ⟨k, hk, rfl, J⟩ := hrel
        clear S1
        obtain ⟨k0, k1, k2⟩ := bx3 J.out.2.1
        obtain ⟨j0, j1, j2⟩ := bx3 J.out.2.2
        by_cases kl : k < N
        · have kli : (k : Int) < (N : Int) := by omega
          have kd : (k : Int) ≤ 9223372036854775807 := by omega
          have U0 : Hid (Below wr.heap.size wr wr.drew) := Below.drew (Below.refl _ _)
          obtain ⟨x, ⟨b, off, rfl, a0⟩, ⟨b', off', rfl, e0⟩⟩ := GN.out wr.drew k (by rw [hbb]; exact Below.drew J.out.1) kl
          have J2 : Hid (Below bb w wr.drew ∧ Bx wr.drew bb 31 #[.slice p n c1, .slice (some ⟨b, off, none⟩) N c2, .slice r S c3] ∧ Bx wr.drew (bb + 1) 31 #[.slice p' n d1, .slice (some ⟨b', off', none⟩) N d2, .slice r' S d3]) := ⟨Below.drew J.out.1, J.out.2.1.on U0.out, J.out.2.2.on U0.out⟩
          have m0 := (bx3 J2.out.2.1).2.1
          have m1 := (bx3 J2.out.2.2).2.1
          clear J GN GS U0
          go_upto_region 11 with fail
          go_region_held3 (fun W => W.cell? ⟨bb, 1, none⟩ = some (.slice (some ⟨b, off, none⟩) N c2) ∧ W.cell? ⟨bb + 1, 1, none⟩ = some (.slice (some ⟨b', off', none⟩) N d2) ∧ W.cell? ⟨b, off + k, none⟩ = some (.int .u64 x) ∧ W.cell? ⟨b', off' + k, none⟩ = some (.int .u64 x)) (with_reducible exact ⟨m0, m1, a0, e0⟩) (fail)
          all_goals
            clear m0 m1 a0 e0 k0 k1 k2 j0 j1 j2
            generalize wr.drew = w9 at *
            go_wp2_with fail
            go_roundg (N - (k + 1))
            case measure => omega
            case rel => exact ⟨k + 1, by omega, by go_num, J2⟩
        · have kli : ¬ (k : Int) < (N : Int) := by omega
          have S2 := hid J.out
          clear GN J kl hk
          go_wp2_with fail
          clear k0 k1 k2 j0 j1 j2
          go_loopg [7] S (fun m iv wr => ∃ k : Nat, k + m = S ∧ iv = .int .i64 (k : Int) ∧ Hid (Below bb w wr ∧ Bx wr bb 31 #[.slice p n c1, .slice q N c2, .slice r S c3] ∧ Bx wr (bb + 1) 31 #[.slice p' n d1, .slice q' N d2, .slice r' S d3]))
          case atStart => exact ⟨0, by omega, rfl, S2⟩
          case round =>
            obtain ⟨k, hk, rfl, J⟩ := hrel
            clear S2
            obtain ⟨k0, k1, k2⟩ := bx3 J.out.2.1
            obtain ⟨j0, j1, j2⟩ := bx3 J.out.2.2
            by_cases kl : k < S
            · have kli : (k : Int) < (S : Int) := by omega
              have kd : (k : Int) ≤ 9223372036854775807 := by omega
              have U0 : Hid (Below wr.heap.size wr wr.drew) := Below.drew (Below.refl _ _)
              obtain ⟨x, ⟨b, off, rfl, a0⟩, ⟨b', off', rfl, e0⟩⟩ := GS.out wr.drew k (by rw [hbb]; exact Below.drew J.out.1) kl
              have J2 : Hid (Below bb w wr.drew ∧ Bx wr.drew bb 31 #[.slice p n c1, .slice q N c2, .slice (some ⟨b, off, none⟩) S c3] ∧ Bx wr.drew (bb + 1) 31 #[.slice p' n d1, .slice q' N d2, .slice (some ⟨b', off', none⟩) S d3]) := ⟨Below.drew J.out.1, J.out.2.1.on U0.out, J.out.2.2.on U0.out⟩
              have m0 := (bx3 J2.out.2.1).2.2
              have m1 := (bx3 J2.out.2.2).2.2
              clear J GS U0
              go_upto_region 16 with fail
              go_region_held3 (fun W => W.cell? ⟨bb, 2, none⟩ = some (.slice (some ⟨b, off, none⟩) S c3) ∧ W.cell? ⟨bb + 1, 2, none⟩ = some (.slice (some ⟨b', off', none⟩) S d3) ∧ W.cell? ⟨b, off + k, none⟩ = some (.string x) ∧ W.cell? ⟨b', off' + k, none⟩ = some (.string x)) (with_reducible exact ⟨m0, m1, a0, e0⟩) (fail)
              all_goals
                clear m0 m1 a0 e0 k0 k1 k2 j0 j1 j2
                generalize wr.drew = w9 at *
                go_wp2_with fail
                go_roundg (S - (k + 1))
                case measure => omega
                case rel => exact ⟨k + 1, by omega, by go_num, J2⟩
            · have kli : ¬ (k : Int) < (S : Int) := by omega
              go_wp2_with fail
              go_ret
              exact ⟨rfl, J.out.1⟩
end Go.Proofs.YtnobafmleellhaaDoor
