/-
  CharsKeeps: apart, walked.
-/
import Derived.Test.YtgliefdefklfeabDoorChKb
import Derived.Deep.LoopGhost
import Derived.Deep.CutRange
import Derived.Deep.RegionHeld3
import Derived.BigQuiet
namespace Go.Proofs.YtgliefdefklfeabDoor
open Go Go.RowKit Go.Deep Go.Shelf

theorem K1.less {B : Nat} {w0 : World} {n bb : Nat} {qs : Nat → Option Addr} {ln cp f f' : Nat → Nat} {W : World} (h : K1 B w0 n bb qs ln cp f W) (hf : ∀ j, j < n → f' j ≤ f j) : K1 B w0 n bb qs ln cp f' W :=
  ⟨h.row, fun i hi => by
    obtain ⟨D, l, a, r⟩ := h.li i hi
    exact ⟨D, l, a, fun k hk => r k (Nat.lt_of_lt_of_le hk (hf i hi))⟩, h.bw, h.sz⟩

theorem K2.gv {B : Nat} {w0 : World} {n bb : Nat} {qs : Nat → Option Addr} {ln cp : Nat → Nat} {W : World} {R0 R i : Nat} {gv : Value} (h : K2 B w0 n bb qs ln cp R0 R i gv W) (h0 : 0 < i) : ∃ b c, gv = .slice (some ⟨b, 0, none⟩) i c := by
  obtain ⟨F, o, _⟩ := h.fv
  rcases o.2 with ⟨_, z⟩ | ⟨g, c, _, e, _⟩
  · omega
  · exact ⟨g, c, e⟩
theorem K3.gq {B : Nat} {w0 : World} {n bb : Nat} {qs : Nat → Option Addr} {ln cp : Nat → Nat} {W : World} {R0 R i : Nat} {gv : Value} {gq : Option Addr} {gc t : Nat} (h : K3 B w0 n bb qs ln cp R0 R i gv gq gc t W) (h0 : 0 < t) : ∃ g, gq = some ⟨g, 0, none⟩ := by
  obtain ⟨D, l, m⟩ := h.gg
  exact l.blk (by rw [m.1]; omega)

set_option maxRecDepth 100000 in
set_option maxHeartbeats 8000000 in
theorem apart_yes (B bb n cl : Nat) (q : Nat → Option Addr) (ln cp : Nat → Nat) (w0 w : World) (h : K1 B w0 n bb q ln cp (fun _ => 0) w) (x : Kx B n bb q w.heap.size) (hl : ∀ i, i < n → ln i ≤ 4294967296) (hn : n ≤ 4294967295) (n0 : 0 < n) :
    Calls Tryd.prog 8 #[.slice (some ⟨bb, 0, none⟩) n cl] w fun e w' => e = .returned (.bool true) ∧ Below B w0 w' := by
  have nn : (n : Int) ≤ 4294967296 := by omega
  have HL := hid hl
  have X := hid x
  have I0 := hid h
  have MK := hid (fun (i j : Nat) (wx : World) => mark_any i j wx)
  have HS : Hid (B ≤ w.heap.size) := h.sz
  obtain ⟨R0, hR⟩ : ∃ R, R = w.heap.size := ⟨_, rfl⟩
  rw [← hR] at X HS
  have HR : Hid (R0 ≤ w.heap.size) := Nat.le_of_eq hR
  clear h x hl hR
  go_enter Tryd.func8, Tryd.ntmps8
  go_wp2_with fail
  go_loopg [3] n (fun m iv wr => ∃ i : Nat, Hid (i + m = n) ∧ iv = .int .i64 (i : Int) ∧ Hid (K1 B w0 n bb q ln cp (fun j => if j < i then ln j else 0) wr) ∧ Hid (R0 ≤ wr.heap.size))
  case atStart => exact ⟨0, by rw [Hid]; omega, rfl, I0.out.less (fun j _ => by simp), HR.out⟩
  case round =>
    obtain ⟨i, hi, rfl, I, hR⟩ := hrel
    by_cases h : i < n
    · have hlt : (i : Int) < (n : Int) := by omega
      have hL := HL.out i h
      have hLb : (ln i : Int) ≤ 4294967296 := by omega
      go_wp2_with fail
      go_loopg [4] (ln i) (fun m kv wr => ∃ k : Nat, Hid (k + m = ln i) ∧ kv = .int .i64 (k : Int) ∧ Hid (K1 B w0 n bb q ln cp (fun j => if j < i then ln j else if j = i then k else 0) wr) ∧ Hid (R0 ≤ wr.heap.size))
      case atStart => exact ⟨0, by rw [Hid]; omega, rfl, I.out.less (fun j _ => by simp), hR.out⟩
      case round =>
        obtain ⟨k, hk, rfl, J, hR2⟩ := hrel
        have r0 := J.out.row i h
        by_cases hkl : k < ln i
        · have hki : (k : Int) < (ln i : Int) := by omega
          go_upto_region 7 with fail
          obtain ⟨g, _, qe, _, _, _⟩ := J.out.mark X.out h hkl (by simp)
          rw [qe] at r0
          have RW : Hid (∀ wx, Below wr.heap.size wr wx → wx.cell? ⟨bb, i, none⟩ = some (.slice (some ⟨g, 0, none⟩) (ln i) (cp i))) := fun wx b => by rw [b.cell (cell_lt r0)]; exact r0
          have ST : Hid (∀ wx, Below wr.heap.size wr wx → ∃ v, wx.cell? ⟨g, k, none⟩ = some (.string v) ∧ wx.frozen? ⟨g, k, none⟩ = false ∧ K1 B w0 n bb q ln cp (fun j => if j = i then k + 1 else if j < i then ln j else if j = i then k else 0) (wx.setCell ⟨g, k, none⟩ (.string (Ch.mk i k))) ∧ R0 ≤ (wx.setCell ⟨g, k, none⟩ (.string (Ch.mk i k))).heap.size ∧ (wx.setCell ⟨g, k, none⟩ (.string (Ch.mk i k))).cell? ⟨bb, i, none⟩ = some (.slice (some ⟨g, 0, none⟩) (ln i) (cp i))) := fun wx b => by
            obtain ⟨g2, v, e, a1, a2, a3⟩ := (J.out.on b).mark X.out h hkl (by simp)
            rw [qe] at e
            cases e
            refine ⟨v, a1, a2, a3, ?_, by rw [← qe]; exact a3.row i h⟩
            have := hR2.out
            have := b.size
            simp
            omega
          have SSD : Hid (Below wr.heap.size wr wr.drew) := ⟨rfl, rfl, rfl, Nat.le_refl _, fun _ _ => rfl⟩
          clear J I I0
          go_region_held3 (fun w' => w'.cell? ⟨bb, i, none⟩ = some (.slice (some ⟨g, 0, none⟩) (ln i) (cp i))) (first | (with_reducible exact RW.out _ U1.out) | (with_reducible exact K1'.out.2.2) | (with_reducible exact RW.out _ SSD.out)) (first
            | (go_at_call 17; (with_reducible refine (MK.out i k _).mono ?_); rintro e v1 ⟨rfl, hB⟩; have U1 := hid (below_on SSD.out hB); clear hB; obtain ⟨vo, c1, c2, K1'⟩ := ST.out _ U1.out; have K1' := hid K1'))
          all_goals
            generalize v1.setCell ⟨g, k, none⟩ (.string (Ch.mk i k)) = v2 at *
            go_wp2_with fail
            go_roundg (ln i - (k + 1))
            case measure => have := hk.out; omega
            case rel => exact ⟨k + 1, by rw [Hid]; have := hk.out; omega, by go_num, K1'.out.1.less (fun j _ => by
              show (if j < i then ln j else if j = i then k + 1 else 0) ≤ (if j = i then k + 1 else if j < i then ln j else if j = i then k else 0)
              split <;> split <;> first | omega | simp_all), K1'.out.2.1⟩
        · have hki : ¬ (k : Int) < (ln i : Int) := by omega
          have ke : k = ln i := by have := hk.out; omega
          go_wp2_with fail
          go_roundg (n - (i + 1))
          case measure => have := hi.out; omega
          case rel => exact ⟨i + 1, by rw [Hid]; have := hi.out; omega, by go_num, J.out.less (fun j _ => by
            show (if j < i + 1 then ln j else 0) ≤ (if j < i then ln j else if j = i then k else 0)
            by_cases e : j = i
            · subst e; simp [ke]
            · split <;> split <;> omega), hR2.out⟩
    · have hlt : ¬ (i : Int) < (n : Int) := by omega
      have LA : Hid (K1 B w0 n bb q ln cp ln wr) := I.out.less (fun j hj => by
        have : j < i := by omega
        simp [this])
      have S2 : Hid (∃ R, K2 B w0 n bb q ln cp R0 R 0 (.slice none 0 0) wr) := ⟨R0, LA.out, ⟨[], World.ownsRow_nil _ _ _ _, fun j hj => absurd hj (Nat.not_lt_zero _)⟩, fun b e => by simp [Value.ownBlock] at e, Nat.le_refl _, hR.out⟩
      clear I I0 LA hi hR
      go_wp2_with fail
      clear hlt
      go_loopg [5, 6] n (fun m gv iv wr => ∃ i : Nat, Hid (i + m = n) ∧ iv = .int .i64 (i : Int) ∧ Hid (∃ R, K2 B w0 n bb q ln cp R0 R i gv wr))
      case atStart => exact ⟨0, by rw [Hid]; omega, rfl, S2.out⟩
      case round =>
        obtain ⟨i, hi, rfl, I⟩ := hrel
        by_cases h : i < n
        · have hlt : (i : Int) < (n : Int) := by omega
          have hL := HL.out i h
          obtain ⟨R, I2⟩ := I.out
          have r0 := I2.k1.row i h
          have G0 := hid (K3.start I2 h)
          clear I I2 S2
          go_wp2_with fail
          clear r0
          go_loopg [7, 8] 16 (fun m lv kv wr => ∃ (t M : Nat) (gq : Option Addr) (gc : Nat), Hid (t + m = 16) ∧ Hid (M = ln i + t) ∧ kv = .int .i64 (t : Int) ∧ lv = .slice gq M gc ∧ Hid (K3 B w0 n bb q ln cp R0 R i u5 gq gc t wr))
          case atStart => exact ⟨0, ln i, q i, cp i, by rw [Hid], by rw [Hid]; omega, rfl, rfl, G0.out⟩
          case round =>
            obtain ⟨t, M, gq, gc, ht, hM, rfl, rfl, G⟩ := hrel
            by_cases htl : t < 16
            · have hti : (t : Int) < 16 := by omega
              have mb : (M : Int) ≤ 4294967400 := by have := hM.out; omega
              clear G0
              go_wp2_with fail
              refine (MK.out i M _).mono ?_
              rintro e v1 ⟨rfl, hB⟩
              obtain ⟨g', c', w', AP, G2⟩ := (G.out.on hB).app X.out h HS.out (by omega)
              rw [← hM.out] at AP
              have AP := hid AP
              have G2 := hid G2
              clear hB G
              go_wp2_with (at_builtin; refine wpList_append_c rfl _ _ rfl AP.out (by rfl) (by rfl) ?_; clear AP)
              go_roundg (16 - (t + 1))
              case measure => have := ht.out; omega
              case rel => exact ⟨t + 1, M + 1, _, _, by rw [Hid]; have := ht.out; omega, by rw [Hid]; have := hM.out; omega, by go_num, rfl, G2.out⟩
            · have hti : ¬ (t : Int) < 16 := by omega
              have te : t = 16 := by have := ht.out; omega
              subst te
              obtain ⟨g', c', w', AP, G2⟩ := G.out.done X.out h HS.out (by omega) (G.out.gq (by omega))
              rw [← hM.out] at AP
              have AP := hid AP
              have G2 : Hid (∃ R, K2 B w0 n bb q ln cp R0 R (i + 1) (.slice (some ⟨g', 0, none⟩) (i + 1) c') w') := ⟨_, G2⟩
              clear G G0
              go_wp2_with (at_builtin; refine wpList_append_c rfl _ _ rfl AP.out (by rfl) (by rfl) ?_; clear AP)
              go_roundg (n - (i + 1))
              case measure => have := hi.out; omega
              case rel => exact ⟨i + 1, by rw [Hid]; have := hi.out; omega, by go_num, G2.out⟩
        · have hlt : ¬ (i : Int) < (n : Int) := by omega
          have ie : i = n := by have := hi.out; omega
          obtain ⟨R, I2⟩ := I.out
          rw [ie] at I2
          obtain ⟨gb, gc, e⟩ := I2.gv n0
          subst e
          have E0 := hid I2
          clear I I2 S2 ie hi
          go_wp2_with fail
          clear hlt
          go_loopg [9] n (fun m iv wr => ∃ i : Nat, Hid (i + m = n) ∧ iv = .int .i64 (i : Int) ∧ Hid (K2 B w0 n bb q ln cp R0 R n (.slice (some ⟨gb, 0, none⟩) n gc) wr))
          case atStart => exact ⟨0, by rw [Hid]; omega, rfl, E0.out⟩
          case round =>
            obtain ⟨i, hi, rfl, I⟩ := hrel
            by_cases h : i < n
            · have hlt : (i : Int) < (n : Int) := by omega
              have hL := HL.out i h
              have hLb : (ln i : Int) ≤ 4294967296 := by omega
              clear E0
              go_wp2_with fail
              go_loopg [10] (ln i) (fun m kv wr => ∃ k : Nat, Hid (k + m = ln i) ∧ kv = .int .i64 (k : Int) ∧ Hid (K2 B w0 n bb q ln cp R0 R n (.slice (some ⟨gb, 0, none⟩) n gc) wr))
              case atStart => exact ⟨0, by rw [Hid]; omega, rfl, I.out⟩
              case round =>
                obtain ⟨k, hk, rfl, J⟩ := hrel
                have r0 := J.out.k1.row i h
                by_cases hkl : k < ln i
                · have hki : (k : Int) < (ln i : Int) := by omega
                  go_upto_region 24 with fail
                  obtain ⟨g, qe, r1⟩ := J.out.book h hkl
                  rw [qe] at r0
                  have RW : Hid (∀ wx, Below wr.heap.size wr wx → wx.cell? ⟨bb, i, none⟩ = some (.slice (some ⟨g, 0, none⟩) (ln i) (cp i)) ∧ wx.cell? ⟨g, k, none⟩ = some (.string (Ch.mk i k))) := fun wx b => ⟨by rw [b.cell (cell_lt r0)]; exact r0, by rw [b.cell (cell_lt r1)]; exact r1⟩
                  have JO : Hid (∀ wx, Below wr.heap.size wr wx → K2 B w0 n bb q ln cp R0 R n (.slice (some ⟨gb, 0, none⟩) n gc) wx) := fun wx b => J.out.on b
                  have SSD : Hid (Below wr.heap.size wr wr.drew) := ⟨rfl, rfl, rfl, Nat.le_refl _, fun _ _ => rfl⟩
                  have MK' := hid (MK.out i k)
                  clear J I
                  generalize Ch.mk i k = mm at *
                  go_region_held3 (fun w' => w'.cell? ⟨bb, i, none⟩ = some (.slice (some ⟨g, 0, none⟩) (ln i) (cp i)) ∧ w'.cell? ⟨g, k, none⟩ = some (.string mm)) (first | (with_reducible exact RW.out _ U1.out) | (with_reducible exact RW.out _ SSD.out)) (first
                    | (go_at_call 17; (with_reducible refine (MK'.out _).mono ?_); rintro e v1 ⟨rfl, hB⟩; have U1 := hid (below_on SSD.out hB); clear hB))
                  all_goals
                    go_wp2_with fail
                    go_roundg (ln i - (k + 1))
                    case measure => have := hk.out; omega
                    case rel => exact ⟨k + 1, by rw [Hid]; have := hk.out; omega, by go_num, JO.out _ U1.out⟩
                · have hki : ¬ (k : Int) < (ln i : Int) := by omega
                  go_wp2_with fail
                  clear r0 hki hkl hk I
                  obtain ⟨M, hM⟩ : ∃ M, M = ln i + 16 := ⟨_, rfl⟩
                  have mb : (M : Int) ≤ 4294967400 := by omega
                  have hM := hid hM
                  go_loopg [11] M (fun m kv wr => ∃ k : Nat, Hid (k + m = M) ∧ kv = .int .i64 (k : Int) ∧ Hid (K2 B w0 n bb q ln cp R0 R n (.slice (some ⟨gb, 0, none⟩) n gc) wr))
                  case atStart => exact ⟨0, by rw [Hid]; omega, rfl, J.out⟩
                  case round =>
                    clear J
                    obtain ⟨k, hk, rfl, J⟩ := hrel
                    obtain ⟨g, c2, r0, r1⟩ := J.out.grown h
                    rw [← hM.out] at r0 r1
                    have r1 := hid r1
                    by_cases hkl : k < M
                    · have hki : (k : Int) < (M : Int) := by omega
                      go_upto_region 29 with fail
                      have r1 := r1.out k hkl
                      have RW : Hid (∀ wx, Below wr.heap.size wr wx → wx.cell? ⟨gb, i, none⟩ = some (.slice (some ⟨g, 0, none⟩) M c2) ∧ wx.cell? ⟨g, k, none⟩ = some (.string (Ch.mk i k))) := fun wx b => ⟨by rw [b.cell (cell_lt r0)]; exact r0, by rw [b.cell (cell_lt r1)]; exact r1⟩
                      have JO : Hid (∀ wx, Below wr.heap.size wr wx → K2 B w0 n bb q ln cp R0 R n (.slice (some ⟨gb, 0, none⟩) n gc) wx) := fun wx b => J.out.on b
                      have SSD : Hid (Below wr.heap.size wr wr.drew) := ⟨rfl, rfl, rfl, Nat.le_refl _, fun _ _ => rfl⟩
                      have MK' := hid (MK.out i k)
                      clear J
                      generalize Ch.mk i k = mm at *
                      go_region_held3 (fun w' => w'.cell? ⟨gb, i, none⟩ = some (.slice (some ⟨g, 0, none⟩) M c2) ∧ w'.cell? ⟨g, k, none⟩ = some (.string mm)) (first | (with_reducible exact RW.out _ U1.out) | (with_reducible exact RW.out _ SSD.out)) (first
                        | (go_at_call 17; (with_reducible refine (MK'.out _).mono ?_); rintro e v1 ⟨rfl, hB⟩; have U1 := hid (below_on SSD.out hB); clear hB))
                      all_goals
                        go_wp2_with fail
                        go_roundg (M - (k + 1))
                        case measure => have := hk.out; omega
                        case rel => exact ⟨k + 1, by rw [Hid]; have := hk.out; omega, by go_num, JO.out _ U1.out⟩
                    · have hki : ¬ (k : Int) < (M : Int) := by omega
                      go_wp2_with fail
                      go_roundg (n - (i + 1))
                      case measure => have := hi.out; omega
                      case rel => exact ⟨i + 1, by rw [Hid]; have := hi.out; omega, by go_num, J.out⟩
            · have hlt : ¬ (i : Int) < (n : Int) := by omega
              have FB := hid I.out.k1.bw
              clear I E0
              go_wp2_with fail
              go_ret
              exact ⟨rfl, FB.out⟩
set_option maxRecDepth 100000 in
theorem apart_nil (w : World) : Calls Tryd.prog 8 #[.slice none 0 0] w fun e w' => e = .returned (.bool true) ∧ Below w.heap.size w w' := by
  have FB := hid (Below.refl w.heap.size w)
  go_enter Tryd.func8, Tryd.ntmps8
  go_wp2_with fail
  go_loopg [3] 0 (fun m iv wr => iv = .int .i64 0 ∧ m = 0 ∧ wr = w)
  case atStart => exact ⟨rfl, rfl, rfl⟩
  case round =>
    obtain ⟨rfl, _, rfl⟩ := hrel
    go_wp2_with fail
    go_loopg [5, 6] 0 (fun m gv iv wx => iv = .int .i64 0 ∧ m = 0 ∧ wx = wr)
    case atStart => exact ⟨rfl, rfl, rfl⟩
    case round =>
      obtain ⟨rfl, _, rfl⟩ := hrel
      go_wp2_with fail
      go_loopg [9] 0 (fun m iv wy => iv = .int .i64 0 ∧ m = 0 ∧ wy = wr)
      case atStart => exact ⟨rfl, rfl, rfl⟩
      case round =>
        obtain ⟨rfl, _, rfl⟩ := hrel
        go_wp2_with fail
        go_ret
        exact ⟨rfl, FB.out⟩
end Go.Proofs.YtgliefdefklfeabDoor
