/-
  Texts put together: FRefN, FTimes, FTextB.
-/
import Derived.Test.YtbdbpjghmejfjaaDoorRD
namespace Go.Proofs.YtbdbpjghmejfjaaDoor
open Go Go.RowKit Go.Deep
namespace Gf

def gv : List Int → Int
  | [] => 0
  | z :: zs => z + 10 * gv zs
def D10 (zs : List Int) : Prop := ∀ z ∈ zs, 0 ≤ z ∧ z < 10

theorem gv_snoc : ∀ (zs : List Int) (x : Int), gv (zs ++ [x]) = gv zs + 10 ^ zs.length * x
  | [], x => by simp [gv]
  | z :: zs, x => by
    simp only [List.cons_append, gv, gv_snoc zs x, List.length_cons, Int.pow_succ, Int.mul_add]
    rw [Int.mul_comm (10 ^ zs.length) 10, Int.mul_assoc]
    omega
theorem gv_take_succ (zs : List Int) (k : Nat) (h : k < zs.length) : gv (zs.take (k + 1)) = gv (zs.take k) + 10 ^ k * zs.getD k 0 := by
  have e : zs.take (k + 1) = zs.take k ++ [zs.getD k 0] := by
    rw [List.take_add_one, List.getElem?_eq_getElem h]
    simp [List.getD, h]
  rw [e, gv_snoc, List.length_take, Nat.min_eq_left (by omega)]
theorem D10.snoc {zs : List Int} (h : D10 zs) {s : Int} (h0 : 0 ≤ s) (h1 : s < 10) : D10 (zs ++ [s]) := by
  intro z hz
  rcases List.mem_append.1 hz with a | a
  · exact h z a
  · simp at a
    subst a
    exact ⟨h0, h1⟩
theorem D10.at {zs : List Int} (h : D10 zs) (i : Nat) : 0 ≤ zs.getD i 0 ∧ zs.getD i 0 < 10 := by
  by_cases hi : i < zs.length
  · have : zs.getD i 0 = zs[i] := by simp [List.getD, hi]
    rw [this]
    exact h _ (List.getElem_mem hi)
  · simp [List.getD, List.getElem?_eq_none (Nat.le_of_not_lt hi)]

/-- A row without zeros at its head. -/
structure Rw (zs : List Int) (v : Int) : Prop where
  dig : D10 zs
  val : gv zs = v
  top : 10 ^ zs.length ≤ 10 * v

/-- A row and what is still to be put behind it. -/
structure Pt (zs : List Int) (c v : Int) : Prop where
  dig : D10 zs
  val : gv zs + 10 ^ zs.length * c = v
  top : 0 < c ∨ 10 ^ zs.length ≤ 10 * gv zs

theorem Pt.step {zs : List Int} {c v : Int} (h : Pt zs c v) (hc : 0 < c) : Pt (zs ++ [c % 10]) (c / 10) v := by
  have hd := h.dig.snoc (s := c % 10) (by omega) (by omega)
  have p := Fx.p_pos zs.length
  refine ⟨hd, ?_, ?_⟩
  · rw [gv_snoc, List.length_append, List.length_cons, List.length_nil, Int.pow_succ, ← h.val]
    have e : c = c % 10 + 10 * (c / 10) := by omega
    generalize (10 : Int) ^ zs.length = q at *
    conv => rhs; rw [e]
    rw [Int.mul_add, Int.mul_assoc]
    omega
  · rcases (show 0 < c / 10 ∨ c / 10 = 0 by omega) with g | g
    · exact .inl g
    · right
      have e : c % 10 = c := by omega
      have g0 : 0 ≤ gv zs := by
        have : ∀ l : List Int, D10 l → 0 ≤ gv l := by
          intro l
          induction l with
          | nil => intro _; simp [gv]
          | cons z l ih =>
            intro hl
            have := ih (fun y hy => hl y (by simp [hy]))
            have := hl z (by simp)
            simp only [gv]
            omega
        exact this zs h.dig
      rw [gv_snoc, e, List.length_append, List.length_cons, List.length_nil, Int.pow_succ]
      have : (10 : Int) ^ zs.length * 1 ≤ 10 ^ zs.length * c := Int.mul_le_mul_of_nonneg_left (by omega) (Int.le_of_lt p)
      omega
theorem Pt.done {zs : List Int} {v : Int} (h : Pt zs 0 v) : Rw zs v := by
  have := h.val
  rw [Int.mul_zero, Int.add_zero] at this
  refine ⟨h.dig, this, ?_⟩
  rcases h.top with c | c
  · omega
  · rw [← this]; exact c

/-- The digits as letters. -/
def tl (zs : List Int) : List Int := (zs.reverse).map (fun z => z + 48)
theorem tl_len (zs : List Int) : (tl zs).length = zs.length := by simp [tl]
theorem tl_digs {zs : List Int} (h : D10 zs) : Digs (tl zs) := by
  intro x hx
  obtain ⟨z, hz, rfl⟩ := List.mem_map.1 hx
  have := h z (List.mem_reverse.1 hz)
  omega
theorem tl_dv : ∀ (zs : List Int), dv (tl zs) = gv zs
  | [] => rfl
  | z :: zs => by
    have e : tl (z :: zs) = tl zs ++ [z + 48] := by simp [tl]
    rw [e, Fx.dv_snoc, tl_dv zs, gv]
    omega
theorem tl_at (zs : List Int) (i : Nat) (h : i < zs.length) : (tl zs).getD (zs.length - 1 - i) 0 = zs.getD i 0 + 48 := by
  have h1 : zs.length - 1 - i < zs.length := by omega
  simp [tl, List.getD, h1, h, show zs.length - 1 - (zs.length - 1 - i) = i by omega]

theorem gv_nn : ∀ {l : List Int}, D10 l → 0 ≤ gv l
  | [], _ => by simp [gv]
  | z :: l, h => by
    have := gv_nn (l := l) (fun y hy => h y (by simp [hy]))
    have := h z (by simp)
    simp only [gv]
    omega

theorem Rw.tl {zs : List Int} {v : Int} (h : Rw zs v) (hv : 0 < v) : Digs (tl zs) ∧ dv (tl zs) = v ∧ tl zs ≠ [] ∧ (tl zs).getD 0 0 ≠ 48 := by
  have d := tl_digs h.dig
  have e := tl_dv zs
  rw [h.val] at e
  have ne : Gf.tl zs ≠ [] := by
    intro c
    rw [c] at e
    have : dv [] = 0 := rfl
    omega
  refine ⟨d, e, ne, ?_⟩
  obtain ⟨n, hn⟩ : ∃ n, (Gf.tl zs).length = n + 1 := ⟨(Gf.tl zs).length - 1, by have := List.length_pos_iff.2 ne; omega⟩
  have t := h.top
  rw [← tl_len, hn, Int.pow_succ] at t
  match hx : Gf.tl zs, hn with
  | x :: ys, hn =>
    intro c
    simp at c
    subst c
    rw [hx] at d e
    have b := (dv_bd (ds := ys) (fun d' hd => d d' (by simp [hd]))).2
    have l : ys.length = n := by simpa using hn
    rw [dv_cons, l] at e
    rw [l] at b
    omega
end Gf

theorem row_lies {base : Nat} {w : World} {mv : Value} {xs : List Int} (h : Row64 base w mv xs) : ∃ p cp, mv = .slice p xs.length cp ∧ Lies w p xs := by
  by_cases h0 : xs = []
  · obtain ⟨p, cp, e⟩ := h.shape
    exact ⟨p, cp, e, .inl h0⟩
  · obtain ⟨g, cp, e, hc⟩ := h.cells h0
    exact ⟨_, cp, e, .inr ⟨g, 0, rfl, hc⟩⟩

theorem row_nil (w : World) (base : Nat) : Row64 base w (.slice none 0 0) [] := ⟨by simp, .inl ⟨rfl, rfl⟩⟩

/-- What row and times tell. -/
def RowTold (v : Int) (N : Nat) (w : World) (e : Ending) (w' : World) : Prop :=
  ∃ p cp zs, e = .returned (.slice p (List.length zs) cp) ∧ Lies w' p zs ∧ Gf.Rw zs v ∧ zs.length ≤ N ∧ Below w.heap.size w w'
end Go.Proofs.YtbdbpjghmejfjaaDoor

namespace Go.Proofs.YtbdbpjghmejfjaaDoor
open Go Go.RowKit Go.Deep

/-- After i digits: the digits below i are made, the carry is c. -/
structure Tm (g : Nat) (w : World) (ls : List Int) (m : Int) (i : Nat) (c : Int) (os : List Int) (wr : World) : Prop where
  own : Own wr g os
  len : os.length = ls.length
  dig : Gf.D10 os
  val : Gf.gv (os.take i) + 10 ^ i * c = m * Gf.gv (ls.take i)
  bel : Below w.heap.size w wr

theorem Tm.step {g : Nat} {w wr : World} {ls os : List Int} {m c : Int} {i : Nat} (h : Tm g w ls m i c os wr) (hi : i < ls.length) (hg : w.heap.size ≤ g) {t : Int} (ht : t = ls.getD i 0 * m + c) (_h0 : 0 ≤ t) :
    Tm g w ls m (i + 1) (t / 10) (os.set i (t % 10)) (wr.setCell ⟨g, i, none⟩ (.int .u64 (t % 10))) := by
  refine ⟨h.own.set i _, by simpa using h.len, ?_, ?_, h.bel.setCell (p := ⟨g, i, none⟩) hg _⟩
  · intro z hz
    rcases List.mem_or_eq_of_mem_set hz with a | rfl
    · exact h.dig z a
    · omega
  · have e1 : (os.set i (t % 10)).take (i + 1) = os.take i ++ [t % 10] := by
      rw [List.take_add_one, List.take_set_of_le (Nat.le_refl _)]
      simp [show i < os.length by have := h.len; omega]
    rw [e1, Gf.gv_snoc, List.length_take, Nat.min_eq_left (by have := h.len; omega), Gf.gv_take_succ ls i hi, Int.mul_add, ← h.val, Int.pow_succ]
    have e : t = t % 10 + 10 * (t / 10) := by omega
    have e3 : m * (10 ^ i * ls.getD i 0) = 10 ^ i * (ls.getD i 0 * m) := by rw [Int.mul_left_comm, Int.mul_comm m]
    rw [e3, Int.add_assoc, Int.add_assoc]
    congr 1
    rw [Int.mul_assoc, ← Int.mul_add, ← Int.mul_add]
    congr 1
    omega

theorem own_row {base g n : Nat} {w : World} {os : List Int} (h : Own w g os) (hl : os.length = n) (hb : base ≤ g) (hn : n ≤ 1000000) : Row64 base w (.slice (some ⟨g, 0, none⟩) n n) os := by
  refine ⟨by simp, .inr ⟨g, n, (os.map (Value.int .u64)).toArray, by rw [hl], hb, h, by omega, by simp only [maxLen]; omega, by simp [hl], ?_⟩⟩
  rw [Nat.mul_one, List.toList_toArray, List.take_of_length_le (by simp)]

set_option maxRecDepth 100000 in
set_option maxHeartbeats 4000000 in
theorem rtimes_any (p : Option Addr) (cp : Nat) (ls : List Int) (v m : Int) (N : Nat) (w : World) (hl : Lies w p ls) (hr : Gf.Rw ls v) (hv : 0 < v) (hN : ls.length ≤ N) (hN1 : N ≤ 100000) (m0 : 0 < m) (m1 : m < 4294967296) :
    Calls Tryd.prog 49 #[.slice p (List.length ls) cp, .int .u64 m] w fun e w' => RowTold (m * v) (N + 11) w e w' := by
  obtain ⟨n, hn⟩ : ∃ n, ls.length = n := ⟨_, rfl⟩
  have hnp : 0 < n := by
    rcases Nat.eq_zero_or_pos n with c | c
    · have := hr.val
      rw [List.eq_nil_of_length_eq_zero (show ls.length = 0 by omega)] at this
      simp [Gf.gv] at this
      omega
    · exact c
  rcases hl with c | ⟨b, off, hp, hc⟩
  · rw [c] at hn; simp at hn; omega
  subst hp
  have hbw : b < w.heap.size := cell_lt (hc 0 (by omega))
  have mk := make64 n (by omega) w
  have bm : Below w.heap.size w (w.alloc (.cells (madeCells #[.int .u64 0] n) 24)) := (Below.refl _ _).alloc (Nat.le_refl _) _
  have ob : Own (w.alloc (.cells (madeCells #[.int .u64 0] n) 24)) w.heap.size (List.replicate n 0) := by rw [made_zero]; exact Own.alloc w _
  obtain ⟨w1, hw1⟩ : ∃ w1, w.alloc (.cells (madeCells #[.int .u64 0] n) 24) = w1 := ⟨_, rfl⟩
  rw [hw1] at mk bm ob
  obtain ⟨g, HG⟩ : ∃ g, Hid (w.heap.size = g) := ⟨_, rfl⟩
  rw [HG.out] at mk ob
  have I0 : Hid (Tm g w ls m 0 0 (List.replicate n 0) w1) := ⟨ob, by simp [hn], fun z hz => by have := List.eq_of_mem_replicate hz; omega, by simp [Gf.gv], bm⟩
  have HC : Hid (∀ wr : World, Below w.heap.size w wr → ∀ i, i < n → wr.cell? ⟨b, off + i, none⟩ = some (.int .u64 (ls.getD i 0))) := fun wr hB i hi => by rw [hB.cell (p := ⟨b, off + i, none⟩) hbw]; exact hc i (by omega)
  have HR := hid hr
  have HV := hid hv
  have HN := hid hn
  have HNN := hid hN
  have hni : (n : Int) ≤ 100000 := by omega
  have DGG := hid hr.dig
  rw [hn]
  clear hc hr hw1 bm ob hv hn hN hbw
  go_enter Tryd.func49, Tryd.ntmps49
  go_wp2_with fail
  go_loopw [6, 7, 8] (fun a i _ wr => ∃ (j : Nat) (x : Int) (os : List Int), a = .int .u64 x ∧ i = .int .i64 (j : Int) ∧ j ≤ n ∧ 0 ≤ x ∧ x < m ∧ Hid (Tm g w ls m j x os wr)) (fun _ i _ _ => n - (intOf i).toNat)
  case atStart => exact ⟨0, 0, _, rfl, rfl, Nat.zero_le _, by omega, m0, I0.out⟩
  case round =>
    clear I0
    obtain ⟨j, x, os, rfl, rfl, hj, hx0, hx1, I⟩ := hrel
    by_cases hlt : j < n
    · have hji : (j : Int) < (n : Int) := by omega
      obtain ⟨h, hH⟩ : ∃ h, Hid (ls.getD j 0 = h) := ⟨_, rfl⟩
      have hcell := HC.out wr I.out.bel j hlt
      have hhb := DGG.out.at j
      rw [hH.out] at hcell hhb
      obtain ⟨h0, h1⟩ := hhb
      have ocell := I.out.own.cell j (by have := I.out.len; have := HN.out; omega)
      have hfr := I.out.own.free j
      obtain ⟨q, hq⟩ : ∃ q, h * m = q := ⟨_, rfl⟩
      have q0 : 0 ≤ q := by rw [← hq]; exact Int.mul_nonneg h0 (by omega)
      have q1 : q ≤ 9 * m := by rw [← hq]; exact Int.mul_le_mul_of_nonneg_right (by omega) (by omega)
      have wq : IntKind.u64.wrap (h * m) = q := by rw [hq, IntKind.wrap_u64]; omega
      obtain ⟨t, ht⟩ : ∃ t, q + x = t := ⟨_, rfl⟩
      have wt : IntKind.u64.wrap (q + x) = t := by rw [ht, IntKind.wrap_u64]; omega
      have t0 : 0 ≤ t := by omega
      obtain ⟨lo, hlo⟩ : ∃ lo, t % 10 = lo := ⟨_, rfl⟩
      obtain ⟨c', hc'⟩ : ∃ c', t / 10 = c' := ⟨_, rfl⟩
      have ST := hid (I.out.step (by have := HN.out; omega) (Nat.le_of_eq HG.out) (t := t) (by rw [hH.out]; omega) t0)
      rw [hlo, hc'] at ST
      have hlo2 : t.tmod 10 = lo := by rw [Int.tmod_eq_emod_of_nonneg t0]; exact hlo
      have hc2 : t.tdiv 10 = c' := by rw [Int.tdiv_eq_ediv_of_nonneg t0]; exact hc'
      have c0 : 0 ≤ c' := by omega
      have c1 : c' < m := by omega
      generalize os.getD j 0 = oj at *
      clear I
      go_wp2_with fail
      go_roundw
      case rel => exact ⟨j + 1, c', _, by first | rfl | rw [hc'], by go_num, by omega, c0, c1, ST.out⟩
      case measure => simp [intOf]; omega
    · obtain rfl : j = n := by omega
      have U0 : Hid (Row64 w.heap.size wr (.slice (some ⟨g, 0, none⟩) j j) os ∧ Gf.Pt os x (m * v) ∧ Below w.heap.size w wr ∧ os.length = j) := by
        have l := I.out.len
        rw [HN.out] at l
        refine ⟨?_, ⟨I.out.dig, ?_, ?_⟩, I.out.bel, l⟩
        · exact own_row I.out.own l (Nat.le_of_eq HG.out) (by omega)
        · have := I.out.val
          rw [List.take_of_length_le (by omega), List.take_of_length_le (by have := HN.out; omega), HR.out.val] at this
          rw [l]; exact this
        · have vv := I.out.val
          rw [List.take_of_length_le (by omega), List.take_of_length_le (by have := HN.out; omega), HR.out.val] at vv
          rcases (show 0 < x ∨ x = 0 by omega) with c | c
          · exact .inl c
          · right
            rw [c, Int.mul_zero, Int.add_zero] at vv
            have t := HR.out.top
            rw [vv, l, ← HN.out]
            have : 1 * v ≤ m * v := Int.mul_le_mul_of_nonneg_right (by omega) (by have := HV.out; omega)
            omega
      have XB : Hid (x < 10 ^ (10 - 0)) := by
        have e : (10 : Int) ^ (10 - 0) = 10000000000 := by decide
        show _ < _
        rw [e]
        omega
      have HJ : Hid (j ≤ N) := by have := HNN.out; have := HN.out; show _ ≤ _; omega
      clear I HC HR HV HN HNN DGG
      go_wp2_with fail
      go_loopw [5, 6] (fun a c w2 => ∃ (mv : Value) (y : Int) (zs : List Int), a = mv ∧ c = .int .u64 y ∧ 0 ≤ y ∧ y < 4294967296 ∧ Hid (Row64 w.heap.size w2 mv zs ∧ Gf.Pt zs y (m * v) ∧ Below w.heap.size w w2 ∧ zs.length ≤ j + 10 ∧ j ≤ zs.length ∧ y < 10 ^ (10 - (zs.length - j)))) (fun _ c _ => (intOf c).toNat)
      case atStart => exact ⟨_, x, os, rfl, rfl, hx0, by omega, U0.out.1, U0.out.2.1, U0.out.2.2.1, by have := U0.out.2.2.2; omega, by have := U0.out.2.2.2; omega, by have := U0.out.2.2.2; rw [show os.length - j = 0 by omega]; exact XB.out⟩
      case round =>
        clear U0 XB
        obtain ⟨mv, y, zs, hmv, rfl, hy0, hy1, I⟩ := hrel
        have hmv := hmv.symm
        subst hmv
        by_cases hz : y = 0
        · subst hz
          obtain ⟨p2, cp2, e, hl2⟩ := row_lies I.out.1
          subst e
          have F : Hid (RowTold (m * v) (N + 11) w (.returned (.slice p2 (List.length zs) cp2)) wr) := ⟨p2, cp2, zs, rfl, hl2, I.out.2.1.done, by have := I.out.2.2.2.1; have := HJ.out; omega, I.out.2.2.1⟩
          clear I hl2
          go_wp2_with fail
          go_ret
          exact F.out
        · have hyp : 0 < y := by omega
          obtain ⟨i1, i2, i3, i4, i6, i5⟩ := I.out
          have zl : zs.length < j + 10 := by
            rcases Nat.lt_or_ge zs.length (j + 10) with c | c
            · exact c
            · rw [show 10 - (zs.length - j) = 0 by omega] at i5
              simp at i5
              omega
          obtain ⟨mv', w2, ap, r2, z2, b2, _⟩ := i1.push (y % 10) (by omega) i3.size
          have I2 : Hid (Row64 w.heap.size w2 mv' (zs ++ [y % 10]) ∧ Gf.Pt (zs ++ [y % 10]) (y / 10) (m * v) ∧ Below w.heap.size w w2 ∧ (zs ++ [y % 10]).length ≤ j + 10 ∧ j ≤ (zs ++ [y % 10]).length ∧ y / 10 < 10 ^ (10 - ((zs ++ [y % 10]).length - j))) := by
            refine ⟨r2, i2.step hyp, i3.trans b2, by simp; omega, by simp; omega, ?_⟩
            rw [List.length_append, List.length_cons, List.length_nil]
            rw [show 10 - (zs.length - j) = (10 - (zs.length + 1 - j)) + 1 by omega, Int.pow_succ] at i5
            rw [Nat.zero_add]
            generalize (10 : Int) ^ (10 - (zs.length + 1 - j)) = q at *
            omega
          have AP := hid ap
          obtain ⟨lo, hlo⟩ : ∃ lo, y % 10 = lo := ⟨_, rfl⟩
          obtain ⟨c', hc'⟩ : ∃ c', y / 10 = c' := ⟨_, rfl⟩
          rw [hlo] at AP I2
          rw [hc'] at I2
          have c0 : 0 ≤ c' := by omega
          have c1 : c' < y := by omega
          have hlo2 : y.tmod 10 = lo := by rw [Int.tmod_eq_emod_of_nonneg hy0]; exact hlo
          have hc2 : y.tdiv 10 = c' := by rw [Int.tdiv_eq_ediv_of_nonneg hy0]; exact hc'
          clear ap I i1 i2 i3 i4 i5 i6 zl r2 z2 b2
          go_wp2_with (at_builtin; refine wpList_append_d rfl _ _ rfl AP.out (by rfl) (by rfl) ?_; clear AP)
          go_roundw
          case rel => exact ⟨mv', c', zs ++ [lo], rfl, by first | rfl | rw [hc'], c0, by omega, I2.out⟩
          case measure => simp [intOf]; omega
end Go.Proofs.YtbdbpjghmejfjaaDoor

namespace Go.Proofs.YtbdbpjghmejfjaaDoor
open Go Go.RowKit Go.Deep

theorem ownb_str {w : World} {g cap : Nat} {zs : List Int} (h : OwnB w g zs) (hz : ∀ x ∈ zs, 0 ≤ x ∧ x < 256) (n : Nat) (hn : zs.length = n) :
    ∃ s, Str s zs ∧ (convert 73 9 (.slice (some ⟨g, 0, none⟩) n cap)).run Tryd.prog w = .ok (.string s) w :=
  ⟨strOfNums zs, Str.of_nums hz, run_convert_bytes_arg (P := Tryd.prog) w 73 5 Tryd.underlying73 Tryd.underlying5 g 0 n cap zs hn (fun i hi => by
    rw [Nat.zero_add, h.cell i (by omega)]) 9 Tryd.underlying9⟩

theorem set_back (ts : List Int) (n j : Nat) (hj : j < n) (hl : ts.length = n) : (List.replicate (n - j) (0 : Int) ++ ts.drop (n - j)).set (n - 1 - j) (ts.getD (n - 1 - j) 0) = List.replicate (n - (j + 1)) 0 ++ ts.drop (n - (j + 1)) := by
  have e1 : n - j = (n - (j + 1)) + 1 := by omega
  have e2 : n - 1 - j = n - (j + 1) := by omega
  rw [e2]
  generalize hq : n - (j + 1) = q at *
  rw [e1]
  have hlt : q < ts.length := by omega
  rw [List.replicate_succ', List.append_assoc, List.set_append_right _ _ (by simp), List.length_replicate, Nat.sub_self]
  congr 1
  rw [List.drop_eq_getElem_cons hlt]
  simp [List.getD, hlt]

set_option maxRecDepth 100000 in
set_option maxHeartbeats 2000000 in
theorem rtext_any (p : Option Addr) (cp : Nat) (ls : List Int) (w : World) (hl : Lies w p ls) (hd : Gf.D10 ls) (hn : ls.length ≤ 100000) (h0 : 0 < ls.length) :
    Calls Tryd.prog 33 #[.slice p (List.length ls) cp] w fun e w' => ∃ s, e = .returned (.string s) ∧ Str s (Gf.tl ls) ∧ Below w.heap.size w w' := by
  obtain ⟨n, hln⟩ : ∃ n, ls.length = n := ⟨_, rfl⟩
  rcases hl with c | ⟨b, off, hp, hc⟩
  · rw [c] at h0; simp at h0
  subst hp
  have hbw : b < w.heap.size := cell_lt (hc 0 h0)
  have mk := make8 n (by omega) w
  have bm : Below w.heap.size w (w.alloc (.cells (madeCells #[.int .u8 0] n) 5)) := (Below.refl _ _).alloc (Nat.le_refl _) _
  have ob : OwnB (w.alloc (.cells (madeCells #[.int .u8 0] n) 5)) w.heap.size (List.replicate n 0) := by rw [made_zero8]; exact OwnB.alloc w _
  obtain ⟨w1, hw1⟩ : ∃ w1, w.alloc (.cells (madeCells #[.int .u8 0] n) 5) = w1 := ⟨_, rfl⟩
  rw [hw1] at mk bm ob
  have HBM := hid bm
  have HOB := hid ob
  have hni : (n : Int) ≤ 100000 := by omega
  obtain ⟨g, HG⟩ : ∃ g, Hid (w.heap.size = g) := ⟨_, rfl⟩
  rw [HG.out] at mk HOB
  have HC : Hid (∀ wr : World, Below w.heap.size w wr → ∀ i, i < n → wr.cell? ⟨b, off + i, none⟩ = some (.int .u64 (ls.getD i 0))) := fun wr hB i hi => by rw [hB.cell (p := ⟨b, off + i, none⟩) hbw]; exact hc i (by omega)
  have tlen : (Gf.tl ls).length = n := by rw [Gf.tl_len, hln]
  have TB : Hid (∀ x ∈ Gf.tl ls, 0 ≤ x ∧ x < 256) := fun x hx => by have := Gf.tl_digs hd x hx; omega
  have TA : Hid (∀ i, i < n → (Gf.tl ls).getD (n - 1 - i) 0 = ls.getD i 0 + 48) := fun i hi => by have := Gf.tl_at ls i (by omega); rw [hln] at this; exact this
  have DA : Hid (∀ i, 0 ≤ ls.getD i 0 ∧ ls.getD i 0 < 10) := fun i => hd.at i
  have TL := hid tlen
  rw [hln]
  generalize Gf.tl ls = ts at *
  clear bm ob hw1 hn hc hd hbw h0 tlen hln
  go_enter Tryd.func33, Tryd.ntmps33
  go_wp2_with fail
  go_loopg [4] n (fun j i wr => ∃ k : Nat, k + j = n ∧ i = .int .i64 (k : Int) ∧ Hid (OwnB wr g (List.replicate (n - k) 0 ++ ts.drop (n - k)) ∧ Below w.heap.size w wr))
  case atStart => exact ⟨0, by omega, rfl, by rw [Nat.sub_zero, List.drop_of_length_le (by have := TL.out; omega), List.append_nil]; exact HOB.out, HBM.out⟩
  case round =>
    obtain ⟨k, hk, rfl, I⟩ := hrel
    cases gk with
    | zero =>
      have e : List.replicate (n - k) (0 : Int) ++ ts.drop (n - k) = ts := by rw [show n - k = 0 by omega]; simp
      have o := I.out.1
      rw [e] at o
      obtain ⟨s, hs, cv⟩ := ownb_str (cap := n) o TB.out n TL.out
      have F := hid hs
      have B := hid I.out.2
      have hki : ¬ (k : Int) < (n : Int) := by omega
      clear hs I HBM HOB o e
      go_wp2_with fail
      go_ret
      exact ⟨s, rfl, F.out, B.out⟩
    | succ u =>
      have hki : (k : Int) < (n : Int) := by omega
      obtain ⟨x, hx⟩ : ∃ x, ls.getD k 0 = x := ⟨_, rfl⟩
      have xb := DA.out k
      have hcell := HC.out wr I.out.2 k (by omega)
      rw [hx] at xb hcell
      obtain ⟨x0, x1⟩ := xb
      obtain ⟨r, hr⟩ : ∃ r, n - 1 - k = r := ⟨_, rfl⟩
      have ri : (n : Int) - 1 - (k : Int) = (r : Int) := by omega
      have rn : (r : Int) < (n : Int) := by omega
      have oc := I.out.1.cell r (by simp; have := TL.out; omega)
      have hf := I.out.1.free r
      have F : Hid (OwnB (wr.setCell ⟨g, r, none⟩ (.int .u8 (48 + x))) g (List.replicate (n - (k + 1)) 0 ++ ts.drop (n - (k + 1))) ∧ Below w.heap.size w (wr.setCell ⟨g, r, none⟩ (.int .u8 (48 + x)))) := by
        refine ⟨?_, I.out.2.setCell (p := ⟨g, r, none⟩) (Nat.le_of_eq HG.out) _⟩
        have := I.out.1.set r (48 + x)
        have e := set_back ts n k (by omega) TL.out
        rw [TA.out k (by omega), hx, hr, Int.add_comm x 48] at e
        rw [e] at this
        exact this
      generalize (List.replicate (n - k) (0 : Int) ++ ts.drop (n - k)).getD r 0 = oo at *
      clear I HBM HOB hr hx
      go_wp2_with fail
      go_roundg u
      case measure => omega
      case rel => exact ⟨k + 1, by omega, by go_num, F.out⟩
end Go.Proofs.YtbdbpjghmejfjaaDoor
