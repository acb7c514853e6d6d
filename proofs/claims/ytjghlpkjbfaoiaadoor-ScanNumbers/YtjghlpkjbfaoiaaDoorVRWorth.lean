/-
  abacusref08: Worth.
-/
import Derived.Test.YtjghlpkjbfaoiaaDoorVRLong
import Derived.Test.YtjghlpkjbfaoiaaDoorVPush
import Derived.Test.YtjghlpkjbfaoiaaDoorVRNorm
import Derived.Laws.BytesArg
namespace Go.Proofs.YtjghlpkjbfaoiaaDoor
open Go Go.RowKit Go.Deep

theorem LS1.past {w wx w' : World} {v0 v1 v2 : Value} (h : LS1 w wx v0 v1 v2) (k : Below (w.heap.size + 1) wx w') : LS1 w w' v0 v1 v2 :=
  ⟨h.1.trans (k.mono (Nat.le_succ _)), h.2.below k (Nat.lt_succ_self _)⟩
theorem LS1.flat {w wx : World} {v0 v1 v2 : Value} (h : LS1 w wx v0 v1 v2) : (wx.cell? ⟨w.heap.size, 0, none⟩ = some v0 ∧ wx.cell? ⟨w.heap.size, 1, none⟩ = some v1 ∧ wx.cell? ⟨w.heap.size, 2, none⟩ = some v2) ∧ wx.frozen? ⟨w.heap.size, 0, none⟩ = false ∧ wx.frozen? ⟨w.heap.size, 1, none⟩ = false ∧ wx.frozen? ⟨w.heap.size, 2, none⟩ = false := h.2.cells
theorem nx8 (s k : Nat) (hs : s < 9) (hk : k < 5) : Sc.nx s k = 8 → k = 0 := by
  rcases (show s = 0 ∨ s = 1 ∨ s = 2 ∨ s = 3 ∨ s = 4 ∨ s = 5 ∨ s = 6 ∨ s = 7 ∨ s = 8 by omega) with rfl | rfl | rfl | rfl | rfl | rfl | rfl | rfl | rfl <;>
    rcases (show k = 0 ∨ k = 1 ∨ k = 2 ∨ k = 3 ∨ k = 4 by omega) with rfl | rfl | rfl | rfl | rfl <;> decide
theorem srt0 {x : Int} (h : Sc.srt x = 0) : 48 ≤ x ∧ x ≤ 57 := by
  rcases Sc.srt_c x with ⟨hd, -⟩ | ⟨_, _, e⟩ | ⟨_, _, e⟩ | ⟨_, _, e⟩ | ⟨_, _, _, _, e⟩
  · exact Sc.dg_iff.1 hd
  all_goals omega

/-- Where Worth's loop stands. -/
def WI (xs : List Int) (w wr : World) (mv : Value) (l sc s' : Nat) (ex : Int) (dn : Bool) (j : Nat) : Prop :=
  ∃ al last, Sc.LI xs 0 j s' last ∧ Sc.WD xs 0 s' j al sc ex dn ∧ al.length = l ∧ l ≤ j ∧ sc ≤ j ∧ j ≤ xs.length ∧ (0 ≤ ex ∧ ex ≤ 1000000000000000) ∧ Row8 (w.heap.size + 1) wr mv al ∧ LS1 w wr (.bool false) (.string ⟨#[]⟩) (.int .i64 0)

def CV (wx : World) (v : Value) (s : ByteArray) : Prop := (convert 37 9 v).run Tryd.prog wx = .ok (.string s) wx
theorem Row8.set {base b o : Nat} {w : World} {mv : Value} {xs : List Int} (h : Row8 base w mv xs) (hb : b < base) (v : Value) : Row8 base (w.setCell ⟨b, o, none⟩ v) mv xs := by
  refine ⟨h.1, ?_⟩
  rcases h.2 with h0 | ⟨g, cp, cur, e, hg, hh, rest⟩
  · exact .inl h0
  · refine .inr ⟨g, cp, cur, e, hg, ?_, rest⟩
    rw [show (w.setCell ⟨b, o, none⟩ v).heap[g]? = w.heap[g]? by simp only [World.setCell, Array.getElem?_modify]; rw [if_neg (by omega)]]
    exact hh
theorem Row8.cv {base : Nat} {w : World} {mv : Value} {xs : List Int} (h : Row8 base w mv xs) (h0 : xs ≠ []) : CV w mv (strOfNums xs) := by
  obtain ⟨g, cp, rfl, hc⟩ := h.cells h0
  exact run_convert_bytes_arg (P := Tryd.prog) w 37 5 Tryd.underlying37 Tryd.underlying5 g 0 xs.length cp xs rfl hc 9 Tryd.underlying9

set_option maxRecDepth 100000 in
set_option maxHeartbeats 8000000 in
theorem worth_any (s : ByteArray) (xs : List Int) (w : World) (hs : Str s xs) (hn : xs.length ≤ 140737488351232) (h1 : Sc.some? xs 0) (h2 : (Sc.lit xs 0).en = xs.length) :
    Calls Tryd.prog 45 #[.string s] w fun r w' => ∃ v, r = .returned v ∧ DecIs v (Sc.lit xs 0).d ∧ Below w.heap.size w w' := by
  have HS := hid hs
  have HN := hid hn
  have hsz := hs.size
  have SP := hid (fun (j s' : Nat) wx (h : s' < 9) => step_any s' (Sc.pk xs j) wx h (hs.atb j).1 (hs.atb j).2)
  have RES : Hid (Sc.res xs 0 = xs.length) := by show _ = _; unfold Sc.res; rw [if_pos h1, h2]
  have H1 := hid h1
  have H2 := hid h2
  have I0 : Hid (WI xs w (w.alloc (.cells #[.bool false, .string ⟨#[]⟩, .int .i64 0] 29)) (.slice none 0 0) 0 0 0 0 false 0) :=
    ⟨[], 0, .s0, ⟨rfl, rfl, rfl, rfl⟩, rfl, Nat.le_refl _, Nat.le_refl _, Nat.zero_le _, ⟨by omega, by omega⟩, ⟨by simp, .inl ⟨rfl, rfl⟩⟩, LS1.new w _ _ _⟩
  clear hs hn h1 h2
  go_enter Tryd.func45, Tryd.ntmps45
  go_wp2_with fail
  go_loopw [3, 4, 5, 6, 7, 8] (fun va vs vt ve vd vi wr => ∃ (pm : Option Addr) (l cp sc s' : Nat) (ex : Int) (dn : Bool) (j : Nat), va = .slice pm l cp ∧ vs = .int .i64 sc ∧ vt = .int .i64 s' ∧ ve = .int .i64 ex ∧ vd = .bool dn ∧ vi = .int .i64 j ∧ Hid (WI xs w wr (.slice pm l cp) l sc s' ex dn j)) (fun _ _ _ _ _ i _ => xs.length - (vInt i).toNat)
  case atStart => exact ⟨none, 0, 0, 0, 0, 0, false, 0, rfl, rfl, rfl, rfl, rfl, rfl, I0.out⟩
  case round =>
    clear I0
    obtain ⟨pm, l, cp, sc, s', ex, dn, j, rfl, rfl, rfl, rfl, rfl, rfl, I⟩ := hrel
    obtain ⟨al, last, li, wd, hal, hlj, hscj, hjn, ⟨e0, e1⟩, row, ls⟩ := I.out
    have hnb := HN.out
    have hjb : (j : Int) ≤ 140737488351232 := by omega
    have hscb : (sc : Int) ≤ 140737488351232 := by omega
    clear I
    by_cases hj : j < xs.length
    · obtain ⟨q1, q2, q3, q4, q5⟩ := li.step
      have h9 : Sc.nx s' (Sc.srt (Sc.pk xs j)) ≠ 9 := fun c => by have := q4 c; rw [RES.out] at this; omega
      obtain ⟨m1, m2⟩ := li.more hj wd h9
      have q6 := q5 h9
      have n8 := nx8 s' _ q1 (Sc.srt_lt (Sc.pk xs j))
      have hn10 := nx_le s' _ q1 (Sc.srt_lt (Sc.pk xs j))
      have xb : 0 ≤ Sc.pk xs j ∧ Sc.pk xs j < 256 := HS.out.atb j
      have S1 := hid (fun wx => SP.out j s' wx q1)
      have SR := hid (fun wx => sort_any (Sc.pk xs j) wx xb.1 xb.2)
      have hx := HS.out.pk j
      have hji : (j : Int) < (xs.length : Int) := by omega
      have s0 := @srt0 (Sc.pk xs j)
      generalize Sc.nx s' (Sc.srt (Sc.pk xs j)) = n at *
      generalize Sc.srt (Sc.pk xs j) = k at *
      generalize Sc.pk xs j = x at *
      obtain ⟨last', q7⟩ : ∃ last', Sc.LI xs 0 (j + 1) n last' := ⟨_, q6⟩
      have LI1 := hid q7
      have ROW := hid row
      have LSS := hid ls
      clear q2 q3 q4 q5 q6 q7 li wd row ls q1
      obtain ⟨xb0, xb1⟩ := xb
      rcases (show n = 2 ∨ n = 5 ∨ n = 7 ∨ n = 8 ∨ (n = 0 ∨ n = 1 ∨ n = 3 ∨ n = 4 ∨ n = 6) by omega) with rfl | rfl | rfl | rfl | c
      · have hs0 := m2 rfl
        rw [hs0] at SR
        rw [if_pos (.inl rfl), if_neg (by omega), if_neg (by omega), if_neg (by omega)] at m1
        have WD1 := hid m1
        clear m1 m2 hs0 n8 s0 h9 hn10
        go_wp2_with fail
        refine (S1.out _).mono ?_
        rintro e' w1 ⟨rfl, hB⟩
        have ls1 := LSS.out.on hB
        obtain ⟨mv', w2, ap, r2, z2, b2, _⟩ := (ROW.out.below hB).push x (by omega) (by have := ls1.2.lt; omega)
        obtain ⟨pm', cp', hmv⟩ := r2.shape
        obtain ⟨l', hl'⟩ : ∃ l', (al ++ [x]).length = l' := ⟨_, rfl⟩
        rw [hl'] at hmv
        subst hmv
        have AP := hid ap
        have F : Hid (WI xs w w2 (.slice pm' l' cp') l' sc 2 ex dn (j + 1)) := ⟨al ++ [x], _, LI1.out, WD1.out, hl', by rw [← hl']; simp; omega, by omega, by omega, ⟨e0, e1⟩, r2, ls1.past b2⟩
        clear hB ls1 ap r2 z2 b2 hl' ROW LSS LI1 WD1 hal S1
        go_wp2_with fail
        refine (SR.out _).mono ?_
        rintro e' w' ⟨rfl, rfl⟩
        clear SR
        go_wp2_with (at_builtin; refine wpList_append_b rfl _ _ rfl AP.out (by rfl) (by rfl) ?_; clear AP)
        go_roundw
        case rel => exact ⟨pm', l', cp', sc, 2, ex, dn, j + 1, rfl, rfl, rfl, rfl, rfl, by go_num, F.out⟩
        case measure => simp [vInt]; omega
      · rw [if_pos (.inr rfl), if_pos rfl, if_neg (by omega), if_neg (by omega)] at m1
        have WD1 := hid m1
        clear m1 m2 n8 s0 h9 hn10 SR
        go_wp2_with fail
        refine (S1.out _).mono ?_
        rintro e' w1 ⟨rfl, hB⟩
        have ls1 := LSS.out.on hB
        obtain ⟨mv', w2, ap, r2, z2, b2, _⟩ := (ROW.out.below hB).push x (by omega) (by have := ls1.2.lt; omega)
        obtain ⟨pm', cp', hmv⟩ := r2.shape
        obtain ⟨l', hl'⟩ : ∃ l', (al ++ [x]).length = l' := ⟨_, rfl⟩
        rw [hl'] at hmv
        subst hmv
        have AP := hid ap
        have F : Hid (WI xs w w2 (.slice pm' l' cp') l' (sc + 1) 5 ex dn (j + 1)) := ⟨al ++ [x], _, LI1.out, WD1.out, hl', by rw [← hl']; simp; omega, by omega, by omega, ⟨e0, e1⟩, r2, ls1.past b2⟩
        clear hB ls1 ap r2 z2 b2 hl' ROW LSS LI1 WD1 hal S1
        go_wp2_with (at_builtin; refine wpList_append_b rfl _ _ rfl AP.out (by rfl) (by rfl) ?_; clear AP)
        go_roundw
        case rel => exact ⟨pm', l', cp', sc + 1, 5, ex, dn, j + 1, rfl, by go_num, rfl, rfl, rfl, by go_num, F.out⟩
        case measure => simp [vInt]; omega
      · rw [if_neg (by omega), if_neg (by omega), if_neg (by omega), if_pos rfl] at m1
        have F0 : Hid (∀ w2, Below wr.heap.size wr w2 → WI xs w w2 (.slice pm l cp) l sc 7 ex (decide (x = 45)) (j + 1)) := fun w2 hB => ⟨al, _, LI1.out, m1, hal, by omega, by omega, by omega, ⟨e0, e1⟩, ROW.out.below hB, LSS.out.on hB⟩
        clear m1 m2 n8 s0 h9 hn10 SR ROW LSS LI1 hal
        by_cases h45 : x = 45
        · subst h45
          go_wp2_with fail
          refine (S1.out _).mono ?_
          rintro e' w1 ⟨rfl, hB⟩
          have F := hid (F0.out _ hB)
          clear hB S1 F0
          go_wp2_with fail
          go_roundw
          case rel => exact ⟨pm, l, cp, sc, 7, ex, true, j + 1, rfl, rfl, rfl, rfl, rfl, by go_num, F.out⟩
          case measure => simp [vInt]; omega
        · have hb : (x == 45) = false := by rw [beq_eq_false_iff_ne]; exact h45
          rw [decide_eq_false h45] at F0
          go_wp2_with fail
          refine (S1.out _).mono ?_
          rintro e' w1 ⟨rfl, hB⟩
          have F := hid (F0.out _ hB)
          clear hB S1 F0
          go_wp2_with fail
          go_roundw
          case rel => exact ⟨pm, l, cp, sc, 7, ex, false, j + 1, rfl, rfl, rfl, rfl, rfl, by go_num, F.out⟩
          case measure => simp [vInt]; omega
      · obtain ⟨x0, x1⟩ := s0 (n8 rfl)
        rw [if_neg (by omega), if_neg (by omega), if_pos rfl, if_neg (by omega)] at m1
        have F0 : Hid (∀ w2, Below wr.heap.size wr w2 → WI xs w w2 (.slice pm l cp) l sc 8 (min (10 * ex + (x - 48)) 1000000000000000) dn (j + 1)) := fun w2 hB => ⟨al, _, LI1.out, m1, hal, by omega, by omega, by omega, ⟨by omega, by omega⟩, ROW.out.below hB, LSS.out.on hB⟩
        clear m1 m2 n8 s0 h9 hn10 SR ROW LSS LI1 hal
        by_cases hbig : 1000000000000000 < ex * 10 + (x - 48)
        · rw [show min (10 * ex + (x - 48)) 1000000000000000 = 1000000000000000 by omega] at F0
          go_wp2_with fail
          refine (S1.out _).mono ?_
          rintro e' w1 ⟨rfl, hB⟩
          have F := hid (F0.out _ hB)
          clear hB S1 F0
          go_wp2_with fail
          go_roundw
          case rel => exact ⟨pm, l, cp, sc, 8, 1000000000000000, dn, j + 1, rfl, rfl, rfl, rfl, rfl, by go_num, F.out⟩
          case measure => simp [vInt]; omega
        · rw [show min (10 * ex + (x - 48)) 1000000000000000 = ex * 10 + (x - 48) by omega] at F0
          go_wp2_with fail
          refine (S1.out _).mono ?_
          rintro e' w1 ⟨rfl, hB⟩
          have F := hid (F0.out _ hB)
          clear hB S1 F0
          go_wp2_with fail
          go_roundw
          case rel => exact ⟨pm, l, cp, sc, 8, ex * 10 + (x - 48), dn, j + 1, rfl, rfl, rfl, rfl, rfl, by go_num, F.out⟩
          case measure => simp [vInt]; omega
      · rw [if_neg (by omega), if_neg (by omega), if_neg (by omega), if_neg (by omega)] at m1
        have F0 : Hid (∀ w2, Below wr.heap.size wr w2 → WI xs w w2 (.slice pm l cp) l sc n ex dn (j + 1)) := fun w2 hB => ⟨al, _, LI1.out, m1, hal, by omega, by omega, by omega, ⟨e0, e1⟩, ROW.out.below hB, LSS.out.on hB⟩
        clear m1 m2 n8 s0 h9 hn10 SR ROW LSS LI1 hal
        rcases c with rfl | rfl | rfl | rfl | rfl
        all_goals
          go_wp2_with fail
          refine (S1.out _).mono ?_
          rintro e' w1 ⟨rfl, hB⟩
          have F := hid (F0.out _ hB)
          clear hB S1 F0
          go_wp2_with fail
          go_roundw
          case rel => exact ⟨pm, l, cp, sc, _, ex, dn, j + 1, rfl, rfl, rfl, rfl, rfl, by go_num, F.out⟩
          case measure => simp [vInt]; omega
    · have hje : j = xs.length := by omega
      subst hje
      obtain ⟨a1, a2, a3⟩ := li.all H1.out (Nat.zero_le _) H2.out wd
      have hji : ¬ (xs.length : Int) < (xs.length : Int) := by omega
      have hlb : al.length ≤ 140737488351232 := by omega
      have ane : al ≠ [] := by
        intro c
        rw [c] at a1
        have l0 : (Sc.lit xs 0).ah.length + (Sc.lit xs 0).bh.length = 0 := by rw [← List.length_append, ← a1]; rfl
        have la : (Sc.lit xs 0).ah.length = Sc.run Sc.dg xs (Sc.p1 xs 0) := by
          have := Sc.run_le Sc.dg xs (Sc.p1 xs 0)
          rw [Sc.ah_at, List.length_take, List.length_drop]; omega
        have lb : (Sc.lit xs 0).bh.length = Sc.bn xs 0 := by
          have h1 : Sc.bn xs 0 ≤ xs.length - (Sc.p2 xs 0 + 1) := by unfold Sc.bn; split; (exact Sc.run_le _ _ _); omega
          rw [Sc.bh_at, List.length_take, List.length_drop]; omega
        have := H1.out
        unfold Sc.some? at this
        omega
      have hpos : 0 < xs.length := by have := List.length_pos_iff.2 ane; omega
      have hposi : (0 : Int) < (xs.length : Int) := by omega
      have HAL : Hid (Str (strOfNums al) al) := Str.of_nums (fun y hy => by
        have : y ∈ xs := by
          rw [a1] at hy
          rcases List.mem_append.1 hy with h | h
          · rw [Sc.ah_at] at h; exact List.mem_of_mem_drop (List.mem_of_mem_take h)
          · rw [Sc.bh_at] at h; exact List.mem_of_mem_drop (List.mem_of_mem_take h)
        exact HS.out.mem this)
      have EQ : Sc.nrm (Sc.lit xs 0).neg al ((if dn = true then - ex else ex) - sc) = (Sc.lit xs 0).d := by rw [a3, a2, a1]; rfl
      have ND : Hid (∀ (b : Bool) (e : Int) wx, b = (Sc.lit xs 0).neg → e = (if dn = true then - ex else ex) - sc → Calls Tryd.prog 47 #[.bool b, .string (strOfNums al), .int .i64 e] wx fun r w' => ∃ v, r = .returned v ∧ DecIs v (Sc.lit xs 0).d ∧ Below wx.heap.size wx w') := fun b e wx hb he => by
        subst hb
        subst he
        rw [← EQ]
        exact normal_any _ _ al _ wx HAL.out (by omega) (by split <;> omega) (by split <;> omega)
      have hng : (Sc.lit xs 0).neg = decide (Sc.pk xs 0 = 45) := rfl
      rw [hng] at ND
      have hx0 := HS.out.pk 0
      have ROW := hid row
      have LSS := hid ls
      have ANE := hid ane
      have FF : Hid (∀ v, DecIs v (Sc.lit xs 0).d → ∃ t, v = .agg #[.bool (Sc.lit xs 0).d.neg, .string t, .int .i64 (Sc.lit xs 0).d.e] ∧ Str t (Sc.lit xs 0).d.ds) := fun v h => h
      clear EQ li wd a1 a2 a3 row ls hng ane HAL hal RES H1 H2 SP
      generalize hD : (Sc.lit xs 0).d = D at *
      have HD := hid hD
      clear hD
      generalize Sc.pk xs 0 = x0 at *
      have C0 := hid (ROW.out.cv ANE.out)
      have LS2 : Hid (LS1 w wr.drew (.bool false) (.string ⟨#[]⟩) (.int .i64 0)) := LSS.out.on (below_drewN (Below.refl _ _) 1)
      have ROW2 : Hid (Row8 (w.heap.size + 1) wr.drew (.slice pm l cp) al) := ROW.out.below (below_drewN (Below.refl _ _) 1)
      have C1 : Hid ((convert 37 9 (.slice pm l cp)).run Tryd.prog wr.drew = .ok (.string (strOfNums al)) wr.drew) := ROW2.out.cv ANE.out
      unfold CV at C0
      have CP : Hid (∀ w' x y z, Below wr.drew.heap.size wr.drew w' → (convert 37 9 (.slice pm l cp)).run Tryd.prog (((w'.setCell ⟨w.heap.size, 0, none⟩ x).setCell ⟨w.heap.size, 1, none⟩ y).setCell ⟨w.heap.size, 2, none⟩ z) = .ok (.string (strOfNums al)) (((w'.setCell ⟨w.heap.size, 0, none⟩ x).setCell ⟨w.heap.size, 1, none⟩ y).setCell ⟨w.heap.size, 2, none⟩ z)) := fun w' x y z h => ((((ROW2.out.below h).set (Nat.lt_succ_self _) x).set (Nat.lt_succ_self _) y).set (Nat.lt_succ_self _) z).cv ANE.out
      have CN : Hid (∀ w', Below wr.drew.heap.size wr.drew w' → (convert 37 9 (.slice pm l cp)).run Tryd.prog w' = .ok (.string (strOfNums al)) w') := fun w' h => (ROW2.out.below h).cv ANE.out
      have WS1 : IntKind.i64.wrap (ex - (sc : Int)) = ex - (sc : Int) := by rw [IntKind.wrap_i64]; omega
      have WS2 : IntKind.i64.wrap (- ex - (sc : Int)) = - ex - (sc : Int) := by rw [IntKind.wrap_i64]; omega
      cases dn
      · by_cases h45 : x0 = 45
        · subst h45
          have N2 : Hid (∀ wx, Calls Tryd.prog 47 #[.bool true, .string (strOfNums al), .int .i64 (ex - (sc : Int))] wx fun r w' => ∃ v, r = .returned v ∧ DecIs v D ∧ Below wx.heap.size wx w') := fun wx => ND.out true (ex - (sc : Int)) wx (rfl) rfl
          clear ND
          go_upto_region 23 with fail
          go_region_held3 (fun wx => (convert 37 9 (.slice pm l cp)).run Tryd.prog wx = .ok (.string (strOfNums al)) wx) (first | (with_reducible exact C3.out _ _ _) | (with_reducible exact C2.out) | (with_reducible exact C1.out) | (with_reducible exact C0.out)) (first
            | (go_at_call 47; with_reducible refine (N2.out _).mono ?_; rintro e w2 ⟨v, rfl, hv, hB⟩; obtain ⟨t, rfl, ht⟩ := FF.out _ hv; have HT := hid ht; have T1 := hid (LS2.out.on hB); have C2 := hid (CN.out _ hB); have C3 := hid (fun x y z => CP.out _ x y z hB); obtain ⟨⟨d0, d1, d2⟩, g0, g1, g2⟩ := T1.out.flat; clear hv hB ht))
          all_goals go_wp2_with fail
          all_goals (try simp only [Exit.inBlock, Exit.then])
          refine bodyPost_ret (results_cell_row rfl _ _ w.heap.size 29 _ (0, 0) _ rfl (T1.out.put _ _ _).2 Tryd.underlying29 rfl (by kernel_rfl)) rfl ?_
          exact dec_ret (show DecIs _ (Sc.lit xs 0).d by rw [HD.out]; exact ⟨_, rfl, HT.out⟩) (T1.out.put _ _ _).1
        · have hb : (x0 == 45) = false := by rw [beq_eq_false_iff_ne]; exact h45
          have N2 : Hid (∀ wx, Calls Tryd.prog 47 #[.bool false, .string (strOfNums al), .int .i64 (ex - (sc : Int))] wx fun r w' => ∃ v, r = .returned v ∧ DecIs v D ∧ Below wx.heap.size wx w') := fun wx => ND.out false (ex - (sc : Int)) wx ((decide_eq_false h45).symm) rfl
          clear ND
          go_upto_region 23 with fail
          go_region_held3 (fun wx => (convert 37 9 (.slice pm l cp)).run Tryd.prog wx = .ok (.string (strOfNums al)) wx) (first | (with_reducible exact C3.out _ _ _) | (with_reducible exact C2.out) | (with_reducible exact C1.out) | (with_reducible exact C0.out)) (first
            | (go_at_call 47; with_reducible refine (N2.out _).mono ?_; rintro e w2 ⟨v, rfl, hv, hB⟩; obtain ⟨t, rfl, ht⟩ := FF.out _ hv; have HT := hid ht; have T1 := hid (LS2.out.on hB); have C2 := hid (CN.out _ hB); have C3 := hid (fun x y z => CP.out _ x y z hB); obtain ⟨⟨d0, d1, d2⟩, g0, g1, g2⟩ := T1.out.flat; clear hv hB ht))
          all_goals go_wp2_with fail
          all_goals (try simp only [Exit.inBlock, Exit.then])
          refine bodyPost_ret (results_cell_row rfl _ _ w.heap.size 29 _ (0, 0) _ rfl (T1.out.put _ _ _).2 Tryd.underlying29 rfl (by kernel_rfl)) rfl ?_
          exact dec_ret (show DecIs _ (Sc.lit xs 0).d by rw [HD.out]; exact ⟨_, rfl, HT.out⟩) (T1.out.put _ _ _).1
      · by_cases h45 : x0 = 45
        · subst h45
          have N2 : Hid (∀ wx, Calls Tryd.prog 47 #[.bool true, .string (strOfNums al), .int .i64 (- ex - (sc : Int))] wx fun r w' => ∃ v, r = .returned v ∧ DecIs v D ∧ Below wx.heap.size wx w') := fun wx => ND.out true (- ex - (sc : Int)) wx (rfl) rfl
          clear ND
          go_upto_region 23 with fail
          go_region_held3 (fun wx => (convert 37 9 (.slice pm l cp)).run Tryd.prog wx = .ok (.string (strOfNums al)) wx) (first | (with_reducible exact C3.out _ _ _) | (with_reducible exact C2.out) | (with_reducible exact C1.out) | (with_reducible exact C0.out)) (first
            | (go_at_call 47; with_reducible refine (N2.out _).mono ?_; rintro e w2 ⟨v, rfl, hv, hB⟩; obtain ⟨t, rfl, ht⟩ := FF.out _ hv; have HT := hid ht; have T1 := hid (LS2.out.on hB); have C2 := hid (CN.out _ hB); have C3 := hid (fun x y z => CP.out _ x y z hB); obtain ⟨⟨d0, d1, d2⟩, g0, g1, g2⟩ := T1.out.flat; clear hv hB ht))
          all_goals go_wp2_with fail
          all_goals (try simp only [Exit.inBlock, Exit.then])
          refine bodyPost_ret (results_cell_row rfl _ _ w.heap.size 29 _ (0, 0) _ rfl (T1.out.put _ _ _).2 Tryd.underlying29 rfl (by kernel_rfl)) rfl ?_
          exact dec_ret (show DecIs _ (Sc.lit xs 0).d by rw [HD.out]; exact ⟨_, rfl, HT.out⟩) (T1.out.put _ _ _).1
        · have hb : (x0 == 45) = false := by rw [beq_eq_false_iff_ne]; exact h45
          have N2 : Hid (∀ wx, Calls Tryd.prog 47 #[.bool false, .string (strOfNums al), .int .i64 (- ex - (sc : Int))] wx fun r w' => ∃ v, r = .returned v ∧ DecIs v D ∧ Below wx.heap.size wx w') := fun wx => ND.out false (- ex - (sc : Int)) wx ((decide_eq_false h45).symm) rfl
          clear ND
          go_upto_region 23 with fail
          go_region_held3 (fun wx => (convert 37 9 (.slice pm l cp)).run Tryd.prog wx = .ok (.string (strOfNums al)) wx) (first | (with_reducible exact C3.out _ _ _) | (with_reducible exact C2.out) | (with_reducible exact C1.out) | (with_reducible exact C0.out)) (first
            | (go_at_call 47; with_reducible refine (N2.out _).mono ?_; rintro e w2 ⟨v, rfl, hv, hB⟩; obtain ⟨t, rfl, ht⟩ := FF.out _ hv; have HT := hid ht; have T1 := hid (LS2.out.on hB); have C2 := hid (CN.out _ hB); have C3 := hid (fun x y z => CP.out _ x y z hB); obtain ⟨⟨d0, d1, d2⟩, g0, g1, g2⟩ := T1.out.flat; clear hv hB ht))
          all_goals go_wp2_with fail
          all_goals (try simp only [Exit.inBlock, Exit.then])
          refine bodyPost_ret (results_cell_row rfl _ _ w.heap.size 29 _ (0, 0) _ rfl (T1.out.put _ _ _).2 Tryd.underlying29 rfl (by kernel_rfl)) rfl ?_
          exact dec_ret (show DecIs _ (Sc.lit xs 0).d by rw [HD.out]; exact ⟨_, rfl, HT.out⟩) (T1.out.put _ _ _).1
end Go.Proofs.YtjghlpkjbfaoiaaDoor
