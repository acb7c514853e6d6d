/-
  LISTS OF PIECES that are read; same, Wants.
-/
import Derived.Test.YtaadooippelcfaaDoorDWrite
import Derived.Test.YtaadooippelcfaaDoorDParse
import Derived.Test.YtaadooippelcfaaDoorDTk
namespace Go.Proofs.YtaadooippelcfaaDoor
open Go Go.RowKit Go.Deep Go.Shelf

/-- A piece that a program can hold. -/
def PcW (p : Dr.Pc) : Prop := (∀ x ∈ p.t, 0 ≤ x ∧ x < 256) ∧ 0 ≤ p.v ∧ p.v < 256

/-- A piece's cells at a place. -/
def PCells (w : World) (b o : Nat) (p : Dr.Pc) : Prop := w.cell? ⟨b, o, none⟩ = some (.string (strOfNums p.t)) ∧ w.cell? ⟨b, o + 1, none⟩ = some (.int .u8 p.v) ∧ w.cell? ⟨b, o + 2, none⟩ = some (.int .i64 p.fl) ∧ w.cell? ⟨b, o + 3, none⟩ = some (.int .i64 p.wk) ∧ w.cell? ⟨b, o + 4, none⟩ = some (.int .i64 p.wd) ∧ w.cell? ⟨b, o + 5, none⟩ = some (.int .i64 p.pk) ∧ w.cell? ⟨b, o + 6, none⟩ = some (.int .i64 p.pr)

/-- A list of pieces that can be read. -/
def LP (w : World) (a : Option Addr) (ps : List Dr.Pc) : Prop := ps = [] ∨ ∃ b off, a = some ⟨b, off, none⟩ ∧ ∀ i p, ps[i]? = some p → PCells w b (off + i * 7) p
theorem cell_below {B : Nat} {w w' : World} {a : Addr} {v : Value} (h : w.cell? a = some v) (k : Below B w w') (hb : a.block < B) : w'.cell? a = some v := by
  rw [← h]; simp only [World.cell?, k.block a.block hb]
theorem PCells.below {w w' : World} {b o : Nat} {p : Dr.Pc} (h : PCells w b o p) (k : Below w.heap.size w w') : PCells w' b o p := by
  obtain ⟨h0, h1, h2, h3, h4, h5, h6⟩ := h
  have hb := cell_lt h0
  exact ⟨cell_below h0 k hb, cell_below h1 k hb, cell_below h2 k hb, cell_below h3 k hb, cell_below h4 k hb, cell_below h5 k hb, cell_below h6 k hb⟩
theorem LP.below {w w' : World} {a : Option Addr} {ps : List Dr.Pc} (h : LP w a ps) (k : Below w.heap.size w w') : LP w' a ps := by
  rcases h with h | ⟨b, off, e, h⟩
  · exact .inl h
  · exact .inr ⟨b, off, e, fun i p hi => (h i p hi).below k⟩

theorem pcs_at {ps : List Dr.Pc} {i k : Nat} {p : Dr.Pc} (h : ps[i]? = some p) (hk : k < 7) : (pcs ps)[i * 7 + k]? = (pcv p)[k]? := by
  induction ps generalizing i with
  | nil => simp at h
  | cons q l ih =>
    have e : pcs (q :: l) = (pcv q).toList ++ pcs l := by simp [pcs]
    have hl : (pcv q).toList.length = 7 := by simp [pcv]
    cases i with
    | zero =>
      simp at h
      subst h
      rw [e, List.getElem?_append_left (by omega)]
      simp
    | succ i =>
      simp at h
      rw [e, List.getElem?_append_right (by omega), hl, show (i + 1) * 7 + k - 7 = i * 7 + k by omega, ih h]
/-- A list of our own can be read. -/
theorem RowP.lp {base : Nat} {w : World} {mv : Value} {ps : List Dr.Pc} (h : RowP base w mv ps) : ∃ a cap, mv = .slice a ps.length cap ∧ ps.length ≤ cap ∧ LP w a ps := by
  rcases h.2 with ⟨rfl, h0⟩ | ⟨g, cap, cur, rfl, _, _, hc, _⟩
  · exact ⟨none, 0, by rw [h0], by omega, .inl (List.eq_nil_of_length_eq_zero h0)⟩
  · refine ⟨_, cap, rfl, hc, .inr ⟨g, 0, rfl, fun i p hi => ?_⟩⟩
    have k : ∀ j, j < 7 → ∀ u, (pcv p)[j]? = some u → w.cell? ⟨g, 0 + i * 7 + j, none⟩ = some u := by
      intro j hj u hu
      have := World.ownsRow.cells h (g := g) rfl (i * 7 + j) u (by rw [pcs_at hi hj]; exact hu)
      rw [Go.WideShapes.add_plain] at this
      rw [Nat.add_assoc]; exact this
    exact ⟨k 0 (by omega) _ rfl, k 1 (by omega) _ rfl, k 2 (by omega) _ rfl, k 3 (by omega) _ rfl, k 4 (by omega) _ rfl, k 5 (by omega) _ rfl, k 6 (by omega) _ rfl⟩

/-- The cells of the piece at place i, by its address. -/
theorem LP.at {w : World} {a : Option Addr} {ps : List Dr.Pc} (h : LP w a ps) (i : Nat) (hi : i < ps.length) : ∃ b off, a = some ⟨b, off, none⟩ ∧ PCells w b (off + i * 7) (ps.getD i Dr.Pc.no) := by
  rcases h with h | ⟨b, off, e, h⟩
  · rw [h] at hi; simp at hi
  · exact ⟨b, off, e, h i _ (by rw [List.getD_eq_getElem?_getD, List.getElem?_eq_getElem hi]; rfl)⟩

theorem check_pc (p : Dr.Pc) (w : World) (hp : PcW p) : Calls Tryd.prog 15 #[.agg #[.string (strOfNums p.t), .int .u8 p.v, .int .i64 p.fl, .int .i64 p.wk, .int .i64 p.wd, .int .i64 p.pk, .int .i64 p.pr]] w fun e w' => e = .returned (.int .i64 (okN p)) ∧ Below w.heap.size w w' :=
  dcheck_any (strOfNums p.t) p.t p.v p.fl p.wk p.wd p.pk p.pr w (Str.of_nums hp.1) hp.2.1 hp.2.2
theorem written_pc (p : Dr.Pc) (w : World) (hp : PcW p) (ho : Dr.ok p) (hT : T10 w.heap.size w) : Calls Tryd.prog 28 #[.agg #[.string (strOfNums p.t), .int .u8 p.v, .int .i64 p.fl, .int .i64 p.wk, .int .i64 p.wd, .int .i64 p.pk, .int .i64 p.pr]] w fun e w' => e = .returned (.string (strOfNums (Dr.wr p))) ∧ Below w.heap.size w w' := by
  rcases ho with h | h | h
  · exact written_text (strOfNums p.t) p.t p.v p.fl p.wk p.wd p.pk p.pr w (Str.of_nums hp.1) (.inl h.2.1)
  · exact written_text (strOfNums p.t) p.t p.v p.fl p.wk p.wd p.pk p.pr w (Str.of_nums hp.1) (.inr h.2.1)
  · exact written_dir (strOfNums p.t) p.t p.v p.fl p.wk p.wd p.pk p.pr w h hT

set_option maxRecDepth 100000 in
set_option maxHeartbeats 1000000 in
theorem wants_any (a : Option Addr) (cap : Nat) (ps : List Dr.Pc) (w : World) (h : LP w a ps) (hn : ps.length ≤ 2199023255552) :
    Calls Tryd.prog 14 #[.slice a ps.length cap] w fun e w' => e = .returned (.int .i64 (Dr.wants ps)) ∧ Below w.heap.size w w' := by
  have H := hid h
  have HN := hid hn
  have K : Hid (Dr.wants (ps.take ps.length) = Dr.wants ps) := by rw [Hid, List.take_length]
  clear h hn
  go_enter Tryd.func14, Tryd.ntmps14
  go_wp2_with fail
  go_loopg [3, 8] ps.length (fun m nv iv wr => ∃ i : Nat, i + m = ps.length ∧ nv = .int .i64 (Dr.wants (ps.take i)) ∧ iv = .int .i64 (i : Int) ∧ Hid (Below w.heap.size w wr))
  case atStart => exact ⟨0, by omega, rfl, rfl, Below.refl _ _⟩
  case round =>
    obtain ⟨i, hi, rfl, rfl, I⟩ := hrel
    have bd := Dr.wants_bd (ps.take i)
    have bl : ((ps.take i).length : Int) ≤ 2199023255552 := by have := HN.out; rw [List.length_take]; omega
    by_cases hl : i < ps.length
    · have hli : (i : Int) < (ps.length : Int) := by omega
      obtain ⟨b, off, rfl, hc⟩ := (H.out.below I.out).at i hl
      have NX := Dr.wants_take hl
      obtain ⟨c0, c1, c2, c3, c4, c5, c6⟩ := hc
      have A := hid (fun v0 v1 v2 v3 v4 v5 v6 => below_on I.out (alloc_b wr (.cells #[v0, v1, v2, v3, v4, v5, v6] 25)))
      clear I
      generalize Dr.wants (ps.take i) = n at *
      generalize ps.getD i Dr.Pc.no = p at *
      have ib : (i : Int) ≤ 2199023255552 := by have := HN.out; omega
      have n0 : 0 ≤ n := bd.1
      have n1 : n ≤ 6597069766656 := by omega
      clear bd bl
      by_cases v0 : p.v = 0
      · have F : Hid (Dr.wants (ps.take (i + 1)) = n) := by rw [Hid, NX, Dr.tk, if_pos (.inl v0)]; omega
        rw [v0] at c1
        clear NX
        go_wp2_with fail
        go_roundg (ps.length - (i + 1))
        case measure => omega
        case rel => exact ⟨i + 1, by omega, by rw [F.out], by go_num, A.out _ _ _ _ _ _ _⟩
      · by_cases v3 : p.v = 37
        · have F : Hid (Dr.wants (ps.take (i + 1)) = n) := by rw [Hid, NX, Dr.tk, if_pos (.inr v3)]; omega
          rw [v3] at c1
          clear NX
          go_wp2_with fail
          go_roundg (ps.length - (i + 1))
          case measure => omega
          case rel => exact ⟨i + 1, by omega, by rw [F.out], by go_num, A.out _ _ _ _ _ _ _⟩
        · rw [Dr.tk, if_neg (fun q => q.elim v0 v3)] at NX
          have u0 : (p.v == 0) = false := by simpa using v0
          have u3 : (p.v == 37) = false := by simpa using v3
          clear v0 v3
          by_cases k1 : p.wk = 2
          · by_cases k2 : p.pk = 2
            · have F : Hid (Dr.wants (ps.take (i + 1)) = n + 3) := by rw [Hid, NX, if_pos k1, if_pos k2]; omega
              rw [k1] at c3
              rw [k2] at c5
              clear NX
              go_wp2_with fail
              go_roundg (ps.length - (i + 1))
              case measure => omega
              case rel => exact ⟨i + 1, by omega, by rw [F.out] <;> first | rfl | (congr 1; omega), by go_num, A.out _ _ _ _ _ _ _⟩
            · have F : Hid (Dr.wants (ps.take (i + 1)) = n + 2) := by rw [Hid, NX, if_pos k1, if_neg k2]; omega
              rw [k1] at c3
              clear NX
              go_wp2_with fail
              go_roundg (ps.length - (i + 1))
              case measure => omega
              case rel => exact ⟨i + 1, by omega, by rw [F.out] <;> first | rfl | (congr 1; omega), by go_num, A.out _ _ _ _ _ _ _⟩
          · by_cases k2 : p.pk = 2
            · have F : Hid (Dr.wants (ps.take (i + 1)) = n + 2) := by rw [Hid, NX, if_neg k1, if_pos k2]; omega
              rw [k2] at c5
              clear NX
              go_wp2_with fail
              go_roundg (ps.length - (i + 1))
              case measure => omega
              case rel => exact ⟨i + 1, by omega, by rw [F.out] <;> first | rfl | (congr 1; omega), by go_num, A.out _ _ _ _ _ _ _⟩
            · have F : Hid (Dr.wants (ps.take (i + 1)) = n + 1) := by rw [Hid, NX, if_neg k1, if_neg k2]; omega
              clear NX
              go_wp2_with fail
              go_roundg (ps.length - (i + 1))
              case measure => omega
              case rel => exact ⟨i + 1, by omega, by rw [F.out] <;> first | rfl | (congr 1; omega), by go_num, A.out _ _ _ _ _ _ _⟩
    · have hli : ¬ (i : Int) < (ps.length : Int) := by omega
      have ie : i = ps.length := by omega
      have k := K.out
      rw [← ie] at k
      rw [k]
      clear bd bl hl
      go_wp2_with fail
      go_ret
      exact ⟨rfl, I.out⟩
end Go.Proofs.YtaadooippelcfaaDoor
