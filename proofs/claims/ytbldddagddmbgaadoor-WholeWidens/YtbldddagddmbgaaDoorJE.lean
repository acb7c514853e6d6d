/-
  Texts put together: JRun, JWide, JReadN, JWB.
-/
import Derived.Test.YtbldddagddmbgaaDoorJA
import Derived.Test.YtbldddagddmbgaaDoorJC
import Derived.Test.YtbldddagddmbgaaDoorJB
import Derived.Test.YtbldddagddmbgaaDoorNF
import Derived.Test.YtbldddagddmbgaaDoorTrimW
import Derived.Deep.DeepCutAuto
namespace Go.Proofs.YtbldddagddmbgaaDoor
open Go Go.RowKit Go.Deep Go.Shelf

/-- A block of bytes of our own. -/
def JOwn (w : World) (g : Nat) (zs : List Int) : Prop := w.heap[g]? = some (.cells (zs.map (Value.int .u8)).toArray 5 (0, 0))
theorem JOwn.cell {w : World} {g : Nat} {zs : List Int} (h : JOwn w g zs) (i : Nat) (hi : i < zs.length) : w.cell? ⟨g, i, none⟩ = some (.int .u8 (zs.getD i 0)) := by
  simp only [JOwn] at h
  simp [World.cell?, h, List.getD, hi]
theorem JOwn.free {w : World} {g : Nat} {zs : List Int} (h : JOwn w g zs) (i : Nat) : w.frozen? ⟨g, i, none⟩ = false := by
  simp only [JOwn] at h
  simp [World.frozen?, h]
theorem JOwn.lt {w : World} {g : Nat} {zs : List Int} (h : JOwn w g zs) : g < w.heap.size := by
  rcases Nat.lt_or_ge g w.heap.size with hl | hl
  · exact hl
  · simp [JOwn, Array.getElem?_eq_none hl] at h
theorem JOwn.set {w : World} {g : Nat} {zs : List Int} (h : JOwn w g zs) (i : Nat) (s : Int) : JOwn (w.setCell ⟨g, i, none⟩ (.int .u8 s)) g (zs.set i s) := by
  have hl := h.lt
  simp only [JOwn] at h ⊢
  simp [World.setCell, Array.getElem?_modify, h, List.map_set]
theorem JOwn.alloc (w : World) (zs : List Int) : JOwn (w.alloc (.cells (zs.map (Value.int .u8)).toArray 5)) w.heap.size zs := by
  show (w.heap.push _)[w.heap.size]? = _
  rw [Array.getElem?_push, if_pos rfl]
theorem jmade (n : Nat) : madeCells #[Value.int .u8 0] n = ((List.replicate n (0 : Int)).map (Value.int .u8)).toArray := by
  apply Array.toList_inj.1
  rw [toList_madeCells_one]
  simp
theorem jinfo8 : (Tryd.prog.info? 5).map (fun i => (i.zero, i.size, i.bytes)) = some (some (.int .u8 0), 1, 1) := by kernel_rfl
theorem jmake (n : Nat) (h : n ≤ 35184372088832) (w : World) :
    (Instr.makeSlice 64 (.int .i64 (n : Int)) (.int .i64 (n : Int))).run Tryd.prog w = .ok (.slice (some ⟨w.heap.size, 0, none⟩) n n) (w.alloc (.cells (madeCells #[.int .u8 0] n) 5)) :=
  run_make_row' 64 5 (.int .u8 0) 1 Tryd.underlying64 jinfo8 rfl .i64 .i64 n (by omega) (by omega) w
theorem JOwn.str {w : World} {g cap : Nat} {zs : List Int} (h : JOwn w g zs) (n : Nat) (hn : zs.length = n) :
    (convert 64 9 (.slice (some ⟨g, 0, none⟩) n cap)).run Tryd.prog w = .ok (.string (strOfNums zs)) w :=
  run_convert_bytes_arg (P := Tryd.prog) w 64 5 Tryd.underlying64 Tryd.underlying5 g 0 n cap zs hn (fun i hi => by
    rw [Nat.zero_add, h.cell i (by omega)]) 9 Tryd.underlying9
theorem jset (c : Int) (k u : Nat) : (List.replicate k c ++ List.replicate (u + 1) 0).set k c = List.replicate (k + 1) c ++ List.replicate u 0 := by
  rw [List.set_append_right _ _ (by simp), List.length_replicate, Nat.sub_self, List.replicate_succ, List.set_cons_zero, List.replicate_succ', List.append_assoc]
  rfl

set_option maxRecDepth 100000 in
set_option maxHeartbeats 1000000 in
theorem run_any (c : Int) (m : Int) (w : World) (hm : m ≤ 16777216) :
    Calls Tryd.prog 31 #[.int .u8 c, .int .i64 m] w fun e w' => e = .returned (.string (strOfNums (Wh.rep c m))) ∧ Below w.heap.size w w' := by
  by_cases hp : 0 < m
  · obtain ⟨n, rfl⟩ := Int.eq_ofNat_of_zero_le (show 0 ≤ m by omega)
    have mk := jmake n (by omega) w
    have bm : Below w.heap.size w (w.alloc (.cells (madeCells #[.int .u8 0] n) 5)) := (Below.refl _ _).alloc (Nat.le_refl _) _
    have ob : JOwn (w.alloc (.cells (madeCells #[.int .u8 0] n) 5)) w.heap.size (List.replicate n 0) := by rw [jmade]; exact JOwn.alloc w _
    obtain ⟨w1, hw1⟩ : ∃ w1, w.alloc (.cells (madeCells #[.int .u8 0] n) 5) = w1 := ⟨_, rfl⟩
    rw [hw1] at mk bm ob
    have HBM := hid bm
    have HOB := hid ob
    have hni : (n : Int) ≤ 16777216 := by omega
    have hn1 : ¬ (n : Int) < 1 := by omega
    obtain ⟨g, HG⟩ : ∃ g, Hid (w.heap.size = g) := ⟨_, rfl⟩
    rw [HG.out] at mk HOB
    have E : Hid (Wh.rep c (n : Int) = List.replicate n c) := rfl
    clear bm ob hw1 hm
    go_enter Tryd.func31, Tryd.ntmps31
    go_wp2_with fail
    go_loopg [7] n (fun j i wr => ∃ k : Nat, k + j = n ∧ i = .int .i64 (k : Int) ∧ Hid (JOwn wr g (List.replicate k c ++ List.replicate j 0) ∧ Below w.heap.size w wr))
    case atStart => exact ⟨0, by omega, rfl, by simpa using HOB.out, HBM.out⟩
    case round =>
      obtain ⟨k, hk, rfl, I⟩ := hrel
      cases gk with
      | zero =>
        have cv := I.out.1.str (cap := n) n (by simp; omega)
        rw [List.replicate_zero, List.append_nil, show k = n by omega] at cv
        have B := hid I.out.2
        have hki : ¬ (k : Int) < (n : Int) := by omega
        clear I HBM HOB
        go_wp2_with fail
        go_ret
        exact ⟨rfl, B.out⟩
      | succ u =>
        have hki : (k : Int) < (n : Int) := by omega
        have hc := I.out.1.cell k (by simp)
        have hf := I.out.1.free k
        have F : Hid (JOwn (wr.setCell ⟨g, k, none⟩ (.int .u8 c)) g (List.replicate (k + 1) c ++ List.replicate u 0) ∧ Below w.heap.size w (wr.setCell ⟨g, k, none⟩ (.int .u8 c))) := by
          refine ⟨?_, I.out.2.setCell (p := ⟨g, k, none⟩) (Nat.le_of_eq HG.out) _⟩
          have := I.out.1.set k c
          rw [jset] at this
          exact this
        generalize (List.replicate k c ++ List.replicate (u + 1) 0).getD k 0 = x at *
        clear I HBM HOB
        go_wp2_with fail
        go_roundg u
        case measure => omega
        case rel => exact ⟨k + 1, by omega, by go_num, F.out⟩
  · have e : Wh.rep c m = [] := Wh.rep_neg (by omega)
    rw [e]
    have B := hid (Below.refl w.heap.size w)
    have hp1 : m < 1 := by omega
    clear hm e
    go_enter Tryd.func31, Tryd.ntmps31
    go_wp2_with fail
    go_ret
    exact ⟨rfl, B.out⟩

set_option maxRecDepth 100000 in
set_option maxHeartbeats 1000000 in
theorem row_any (c : Int) (m : Int) (w : World) (hm : m ≤ 16777216) :
    Calls Tryd.prog 59 #[.int .u8 c, .int .i64 m] w fun e w' => e = .returned (.string (strOfNums (Wh.rep c m))) ∧ Below w.heap.size w w' := by
  by_cases hp : 0 < m
  · obtain ⟨n, rfl⟩ := Int.eq_ofNat_of_zero_le (show 0 ≤ m by omega)
    have mk := jmake n (by omega) w
    have bm : Below w.heap.size w (w.alloc (.cells (madeCells #[.int .u8 0] n) 5)) := (Below.refl _ _).alloc (Nat.le_refl _) _
    have ob : JOwn (w.alloc (.cells (madeCells #[.int .u8 0] n) 5)) w.heap.size (List.replicate n 0) := by rw [jmade]; exact JOwn.alloc w _
    obtain ⟨w1, hw1⟩ : ∃ w1, w.alloc (.cells (madeCells #[.int .u8 0] n) 5) = w1 := ⟨_, rfl⟩
    rw [hw1] at mk bm ob
    have HBM := hid bm
    have HOB := hid ob
    have hni : (n : Int) ≤ 16777216 := by omega
    have hn1 : ¬ (n : Int) < 1 := by omega
    obtain ⟨g, HG⟩ : ∃ g, Hid (w.heap.size = g) := ⟨_, rfl⟩
    rw [HG.out] at mk HOB
    have E : Hid (Wh.rep c (n : Int) = List.replicate n c) := rfl
    clear bm ob hw1 hm
    go_enter Tryd.func59, Tryd.ntmps59
    go_wp2_with fail
    go_loopg [6] n (fun j i wr => ∃ k : Nat, k + j = n ∧ i = .int .i64 (k : Int) ∧ Hid (JOwn wr g (List.replicate k c ++ List.replicate j 0) ∧ Below w.heap.size w wr))
    case atStart => exact ⟨0, by omega, rfl, by simpa using HOB.out, HBM.out⟩
    case round =>
      obtain ⟨k, hk, rfl, I⟩ := hrel
      cases gk with
      | zero =>
        have cv := I.out.1.str (cap := n) n (by simp; omega)
        rw [List.replicate_zero, List.append_nil, show k = n by omega] at cv
        have B := hid I.out.2
        have hki : ¬ (k : Int) < (n : Int) := by omega
        clear I HBM HOB
        go_wp2_with fail
        go_ret
        exact ⟨rfl, B.out⟩
      | succ u =>
        have hki : (k : Int) < (n : Int) := by omega
        have hc := I.out.1.cell k (by simp)
        have hf := I.out.1.free k
        have F : Hid (JOwn (wr.setCell ⟨g, k, none⟩ (.int .u8 c)) g (List.replicate (k + 1) c ++ List.replicate u 0) ∧ Below w.heap.size w (wr.setCell ⟨g, k, none⟩ (.int .u8 c))) := by
          refine ⟨?_, I.out.2.setCell (p := ⟨g, k, none⟩) (Nat.le_of_eq HG.out) _⟩
          have := I.out.1.set k c
          rw [jset] at this
          exact this
        generalize (List.replicate k c ++ List.replicate (u + 1) 0).getD k 0 = x at *
        clear I HBM HOB
        go_wp2_with fail
        go_roundg u
        case measure => omega
        case rel => exact ⟨k + 1, by omega, by go_num, F.out⟩
  · have e : Wh.rep c m = [] := Wh.rep_neg (by omega)
    rw [e]
    have B := hid (Below.refl w.heap.size w)
    have hp1 : m < 1 := by omega
    clear hm e
    go_enter Tryd.func59, Tryd.ntmps59
    go_wp2_with fail
    go_ret
    exact ⟨rfl, B.out⟩
end Go.Proofs.YtbldddagddmbgaaDoor

namespace Go.Proofs.YtbldddagddmbgaaDoor
open Go Go.RowKit Go.Deep Go.Shelf
namespace Wh
/-- A text brought to the width, hd bytes of it being ahead of where zeros come in. -/
def wd (F W : Int) (xb : List Int) (hd : Int) : List Int :=
  if W - xb.length ≤ 0 then xb
  else if bit F 1 = true then xb ++ rep 32 (W - xb.length)
  else if bit F 16 = true ∧ 0 ≤ hd then xb.take hd.toNat ++ rep 48 (W - xb.length) ++ xb.drop hd.toNat
  else rep 32 (W - xb.length) ++ xb
theorem padT_wd (F W : Int) (z : Bool) (h b : List Int) : padT F W z h b = wd F W (h ++ b) (if z = true then (h.length : Int) else -1) := by
  have e : W - ((h ++ b).length : Int) = W - h.length - b.length := by rw [List.length_append]; omega
  unfold padT wd
  rw [e]
  by_cases k : W - (h.length : Int) - (b.length : Int) ≤ 0
  · rw [if_pos k, rep_neg k, rep_neg k]
    split
    · simp
    · split <;> simp
  · rw [if_neg k]
    by_cases b1 : bit F 1 = true
    · rw [if_pos b1, if_pos b1]
    · rw [if_neg b1, if_neg b1]
      cases z with
      | true =>
        by_cases b2 : bit F 16 = true
        · rw [if_pos ⟨b2, rfl⟩, if_pos rfl, if_pos ⟨b2, by omega⟩, Int.toNat_natCast]
          simp
        · rw [if_neg (fun q => b2 q.1), if_neg (fun q => b2 q.1)]
          simp
      | false =>
        rw [if_neg (fun q => Bool.false_ne_true q.2), if_neg Bool.false_ne_true, if_neg (by omega)]
        simp
end Wh

theorem ext_drop {xs : List Int} (hx : Wh.By xs) (k : Nat) : (strOfNums xs).extract k xs.length = strOfNums (xs.drop k) := by
  have q := (Str.of_nums hx).extract k xs.length
  have e : (xs.drop k).take (xs.length - k) = xs.drop k := List.take_of_length_le (by rw [List.length_drop]; omega)
  rw [e] at q
  exact str_is q

theorem run_cat (a b : ByteArray) (w : World) (h : a.size + b.size ≤ 9223372036854775807) : (Op.stringOp .add a b).run Tryd.prog w = .ok (.string (a ++ b)) w := by
  exact run_string_add_sum w a b (by omega)

set_option maxRecDepth 100000 in
set_option maxHeartbeats 2000000 in
theorem lwide_any (V F W P : Int) (xb : List Int) (hd : Int) (w : World) (f0 : 0 ≤ F) (f1 : F ≤ 31) (w0 : 0 ≤ W) (w1 : W ≤ 4096) (hb : Wh.By xb) (hl : xb.length ≤ 16777300) (h0 : -1 ≤ hd) (h1 : hd ≤ xb.length) :
    Calls Tryd.prog 14 #[.agg #[.int .u8 V, .int .i64 F, .int .i64 W, .int .i64 P], .string (strOfNums (Wh.wd F W xb hd)), .string (strOfNums xb), .int .i64 hd] w fun e w' => e = .returned (.bool true) ∧ Below w.heap.size w w' := by
  have B0 := hid (SB.new w V F W P)
  have sb : (strOfNums xb).size = xb.length := strOfNums_size xb
  have l2 : (xb.length : Int) ≤ 16777300 := by omega
  have H1 := hid (fun W' => lhas_any V F W P 1 W' f0 f1 (by omega))
  have H2 := hid (fun W' => lhas_any V F W P 16 W' f0 f1 (by omega))
  have R1 := hid (fun W' => run_any 32 (W - xb.length) W' (by omega))
  have R2 := hid (fun W' => run_any 48 (W - xb.length) W' (by omega))
  by_cases k : W - (xb.length : Int) ≤ 0
  · have e : Wh.wd F W xb hd = xb := if_pos k
    rw [e]
    clear e H1 H2 R1 R2 f0 f1 hb hl h0 h1
    obtain ⟨c0, c1, c2, c3⟩ := B0.out.flat
    go_enter Tryd.func14, Tryd.ntmps14
    go_wp2_with fail
    go_ret
    exact ⟨rfl, B0.out.bel⟩
  · have rl : ∀ c, (Wh.rep c (W - xb.length)).length ≤ 4096 := by intro c; rw [Wh.rep_len]; omega
    have s1 : (strOfNums (Wh.rep 32 (W - xb.length))).size ≤ 4096 := by rw [strOfNums_size]; exact rl 32
    have s2 : (strOfNums (Wh.rep 48 (W - xb.length))).size ≤ 4096 := by rw [strOfNums_size]; exact rl 48
    have s3 : ((strOfNums (Wh.rep 32 (W - xb.length))).size : Int) ≤ 4096 := by omega
    have s4 : ((strOfNums (Wh.rep 48 (W - xb.length))).size : Int) ≤ 4096 := by omega
    clear rl
    cases b1 : Wh.bit F 1 with
    | true =>
      have e : Wh.wd F W xb hd = xb ++ Wh.rep 32 (W - xb.length) := by rw [Wh.wd, if_neg k, if_pos b1]
      have G := str_app hb (Wh.By.rep (c := 32) (n := W - xb.length) (by omega))
      rw [e]
      rw [b1] at H1
      clear e H2 R2 f0 f1 hb hl h0 h1 s2 s4 b1
      generalize strOfNums (xb ++ Wh.rep 32 (W - xb.length)) = T at *
      generalize strOfNums (Wh.rep 32 (W - xb.length)) = Q at *
      generalize strOfNums xb = N at *
      obtain ⟨c0, c1, c2, c3⟩ := B0.out.flat
      go_enter Tryd.func14, Tryd.ntmps14
      go_wp2_with fail
      with_reducible refine (H1.out _).mono ?_
      rintro e w2 ⟨rfl, b2⟩
      have B2 := hid (B0.out.on b2)
      clear b2 H1 B0 c0 c1 c2 c3
      go_wp2_with fail
      with_reducible refine (R1.out _).mono ?_
      rintro e w3 ⟨rfl, b3⟩
      have B3 := hid (B2.out.on b3)
      clear b3 R1 B2
      go_wp2_with fail
      go_ret
      exact ⟨rfl, B3.out.bel⟩
    | false =>
      rw [b1] at H1
      by_cases hc : Wh.bit F 16 = true ∧ 0 ≤ hd
      · obtain ⟨j, rfl⟩ := Int.eq_ofNat_of_zero_le hc.2
        have e : Wh.wd F W xb (j : Int) = xb.take j ++ Wh.rep 48 (W - xb.length) ++ xb.drop j := by rw [Wh.wd, if_neg k, b1, if_neg Bool.false_ne_true, if_pos hc, Int.toNat_natCast]
        have G1 := str_app (hb.take j) (Wh.By.rep (c := 48) (n := W - xb.length) (by omega))
        have G2 := str_app ((hb.take j).app (Wh.By.rep (c := 48) (n := W - xb.length) (by omega))) (fun x hx => hb x (List.mem_of_mem_drop (i := j) hx))
        have X1 := ext_take hb j
        have X2 := ext_drop hb j
        have z1 : (strOfNums (xb.take j)).size = j := by rw [strOfNums_size, List.length_take]; omega
        have z2 : (strOfNums (xb.drop j)).size = xb.length - j := by rw [strOfNums_size, List.length_drop]
        have z3 : (strOfNums (xb.take j ++ Wh.rep 48 (W - xb.length))).size = j + (strOfNums (Wh.rep 48 (W - xb.length))).size := by rw [strOfNums_size, strOfNums_size, List.length_append, List.length_take]; omega
        have j1 : (j : Int) ≤ (xb.length : Int) := h1
        have j2 : j ≤ xb.length := by omega
        have A1 : ∀ wx, (Op.stringOp .add (strOfNums (xb.take j)) (strOfNums (Wh.rep 48 (W - xb.length)))).run Tryd.prog wx = .ok (.string (strOfNums (xb.take j ++ Wh.rep 48 (W - xb.length)))) wx := by
          intro wx
          rw [← G1]
          exact run_cat _ _ wx (by omega)
        have A2 : ∀ wx, (Op.stringOp .add (strOfNums (xb.take j ++ Wh.rep 48 (W - xb.length))) (strOfNums (xb.drop j))).run Tryd.prog wx = .ok (.string (strOfNums (xb.take j ++ Wh.rep 48 (W - xb.length) ++ xb.drop j))) wx := by
          intro wx
          rw [← G2]
          exact run_cat _ _ wx (by omega)
        clear G1 G2
        rw [e]
        rw [hc.1] at H2
        clear e R1 f0 f1 hb h0 h1 s1 s3 hc b1
        generalize strOfNums (xb.take j ++ Wh.rep 48 (W - xb.length) ++ xb.drop j) = T at *
        generalize strOfNums (xb.take j ++ Wh.rep 48 (W - xb.length)) = T1 at *
        generalize strOfNums (Wh.rep 48 (W - xb.length)) = Q at *
        generalize strOfNums (xb.take j) = TA at *
        generalize strOfNums (xb.drop j) = TD at *
        generalize strOfNums xb = N at *
        obtain ⟨c0, c1, c2, c3⟩ := B0.out.flat
        go_enter Tryd.func14, Tryd.ntmps14
        go_wp2_with fail
        with_reducible refine (H1.out _).mono ?_
        rintro e w2 ⟨rfl, b2⟩
        have B2 := hid (B0.out.on b2)
        clear b2 H1 B0 c0 c1 c2 c3
        obtain ⟨c0, c1, c2, c3⟩ := B2.out.flat
        go_wp2_with fail
        with_reducible refine (H2.out _).mono ?_
        rintro e w3 ⟨rfl, b3⟩
        have B3 := hid (B2.out.on b3)
        clear b3 H2 B2 c0 c1 c2 c3
        go_upto_region 7 with fail
        have T1' := hid B3.out.drew
        go_region_held3 (fun wx => wx.cell? ⟨w.heap.size, 0, none⟩ = some (.int .u8 V)) (first | (with_reducible exact T2'.out.flat.1) | (with_reducible exact T1'.out.flat.1)) (first
          | (go_at_call 31; with_reducible refine (R2.out _).mono ?_; rintro e wa ⟨rfl, hB⟩; have T2' := hid (T1'.out.on hB); clear hB))
        have B4 := hid T2'.out.bel
        clear T1' T2' B3
        go_wp2_with fail
        go_ret
        exact ⟨rfl, B4.out⟩
      · have e : Wh.wd F W xb hd = Wh.rep 32 (W - xb.length) ++ xb := by rw [Wh.wd, if_neg k, b1, if_neg Bool.false_ne_true, if_neg hc]
        have G := str_app (Wh.By.rep (c := 32) (n := W - xb.length) (by omega)) hb
        rw [e]
        clear e R2 f0 f1 hb hl s2 s4 b1
        generalize strOfNums (Wh.rep 32 (W - xb.length) ++ xb) = T at *
        generalize strOfNums (Wh.rep 32 (W - xb.length)) = Q at *
        generalize strOfNums xb = N at *
        obtain ⟨c0, c1, c2, c3⟩ := B0.out.flat
        cases b16 : Wh.bit F 16 with
        | true =>
          have hn : ¬ 0 ≤ hd := fun q => hc ⟨b16, q⟩
          rw [b16] at H2
          clear hc b16
          go_enter Tryd.func14, Tryd.ntmps14
          go_wp2_with fail
          with_reducible refine (H1.out _).mono ?_
          rintro e w2 ⟨rfl, b2⟩
          have B2 := hid (B0.out.on b2)
          clear b2 H1 B0 c0 c1 c2 c3
          obtain ⟨c0, c1, c2, c3⟩ := B2.out.flat
          go_wp2_with fail
          with_reducible refine (H2.out _).mono ?_
          rintro e w3 ⟨rfl, b3⟩
          have B3 := hid (B2.out.on b3)
          clear b3 H2 B2 c0 c1 c2 c3
          go_wp2_with fail
          with_reducible refine (R1.out _).mono ?_
          rintro e w4 ⟨rfl, b4⟩
          have B4 := hid (B3.out.on b4)
          clear b4 R1 B3
          go_wp2_with fail
          go_ret
          exact ⟨rfl, B4.out.bel⟩
        | false =>
          rw [b16] at H2
          clear hc b16
          go_enter Tryd.func14, Tryd.ntmps14
          go_wp2_with fail
          with_reducible refine (H1.out _).mono ?_
          rintro e w2 ⟨rfl, b2⟩
          have B2 := hid (B0.out.on b2)
          clear b2 H1 B0 c0 c1 c2 c3
          obtain ⟨c0, c1, c2, c3⟩ := B2.out.flat
          go_wp2_with fail
          with_reducible refine (H2.out _).mono ?_
          rintro e w3 ⟨rfl, b3⟩
          have B3 := hid (B2.out.on b3)
          clear b3 H2 B2 c0 c1 c2 c3
          go_wp2_with fail
          with_reducible refine (R1.out _).mono ?_
          rintro e w4 ⟨rfl, b4⟩
          have B4 := hid (B3.out.on b4)
          clear b4 R1 B3
          go_wp2_with fail
          go_ret
          exact ⟨rfl, B4.out.bel⟩
end Go.Proofs.YtbldddagddmbgaaDoor

namespace Go.Proofs.YtbldddagddmbgaaDoor
open Go.RowKit Go.Deep
namespace Wh

theorem wv_ten {x : Int} (h : wv x < 10) : 48 ≤ x ∧ x ≤ 57 := by
  unfold wv at h
  split at h
  · assumption
  · split at h
    · omega
    · split at h <;> omega
theorem Dg.digs {up : Bool} {v : Int} {xs : List Int} (h : Dg 10 up v xs) : Digs xs := by
  intro x hx
  obtain ⟨i, hi, rfl⟩ := List.getElem_of_mem hx
  have q := h.dig i hi
  rw [List.getD_eq_getElem?_getD, List.getElem?_eq_getElem hi] at q
  exact wv_ten q
theorem Dg.dv {up : Bool} {v : Int} {xs : List Int} (h : Dg 10 up v xs) : dv xs = v := by
  rw [← h.val, wv_map h.digs]; rfl

/-- The digits brought to the precision. -/
structure FilOk (P v : Int) (xs : List Int) : Prop where
  digs : Digs xs
  val : dv xs = v
  len : P ≤ xs.length
  max : xs.length ≤ 270000
  nil : v = 0 → P = 0 → xs = []
  ne : ¬ (v = 0 ∧ P = 0) → xs ≠ []
  head : xs.getD 0 0 ≠ 48 ∨ (xs.getD 0 0 = 48 ∧ (xs.length : Int) = P) ∨ (xs.getD 0 0 = 48 ∧ (xs.length : Int) ≠ P ∧ v = 0 ∧ xs.length = 1)

theorem digs_rep (n : Int) : Digs (rep 48 n) := by
  intro x hx
  rw [rep, List.mem_replicate] at hx
  omega
theorem fil_ok {P : Int} {zs : List Int} (hz : Nm.Limbs zs) (ht : Nm.tsize zs ≤ 4096) (p0 : -1 ≤ P) (p1 : P ≤ 4096) : FilOk P (Nm.val zs) (fil P (dig 10 false (Nm.val zs))) := by
  have v0 := (Nm.val_bd zs hz).1
  have D : Digs (dig 10 false (Nm.val zs)) ∧ dv (dig 10 false (Nm.val zs)) = Nm.val zs ∧ (dig 10 false (Nm.val zs)).length ≤ 262144 ∧ (Nm.val zs = 0 → dig 10 false (Nm.val zs) = []) ∧ (Nm.val zs ≠ 0 → dig 10 false (Nm.val zs) ≠ [] ∧ (dig 10 false (Nm.val zs)).getD 0 0 ≠ 48) := by
    by_cases h : Nm.val zs = 0
    · have e : dig 10 false (Nm.val zs) = [] := by rw [dig, if_pos h]
      rw [e, h]
      exact ⟨by intro x hx; simp at hx, rfl, by simp, fun _ => rfl, fun q => absurd rfl q⟩
    · have g := dig_good (B := 10) (up := false) hz (by omega) ht (by omega) (by omega)
      exact ⟨g.digs, g.dv, g.len, fun q => absurd q h, fun _ => ⟨g.ne, g.head⟩⟩
  obtain ⟨d1, d2, d3, d4, d5⟩ := D
  generalize dig 10 false (Nm.val zs) = D at *
  generalize Nm.val zs = v at *
  obtain ⟨L, hL⟩ : ∃ L : Int, L = if P = -1 then 1 else P := ⟨_, rfl⟩
  have L0 : (P = -1 ∧ L = 1) ∨ (P ≠ -1 ∧ L = P) := by
    rw [hL]; split
    · exact .inl ⟨by assumption, rfl⟩
    · exact .inr ⟨by assumption, rfl⟩
  have e : fil P D = rep 48 (L - D.length) ++ D := by rw [fil, ← hL]
  rw [e]
  clear hL e
  have ll : (rep 48 (L - D.length) ++ D).length = (L - D.length).toNat + D.length := by rw [List.length_append, rep_len]
  have nz : v = 0 ↔ D.length = 0 := by
    constructor
    · intro h; rw [d4 h]; rfl
    · intro h
      by_cases c : v = 0
      · exact c
      · exact absurd (List.eq_nil_of_length_eq_zero h) (d5 c).1
  refine ⟨?_, ?_, ?_, ?_, ?_, ?_, ?_⟩
  · intro x hx
    rcases List.mem_append.1 hx with q | q
    · exact digs_rep _ x q
    · exact d1 x q
  · rw [dv_append, rep, dv_zeros, d2]; omega
  · rw [ll]; omega
  · rw [ll]; omega
  · intro h1 h2
    apply List.eq_nil_of_length_eq_zero
    rw [ll]; omega
  · intro h c
    rw [c] at ll
    simp at ll
    omega
  · by_cases k : L - D.length ≤ 0
    · rw [rep_neg k, List.nil_append]
      by_cases c : v = 0
      · left
        rw [d4 c]; decide
      · exact .inl (d5 c).2
    · have e : (rep 48 (L - D.length) ++ D).getD 0 0 = 48 := by
        rw [rep, show (L - (D.length : Int)).toNat = ((L - (D.length : Int)).toNat - 1) + 1 by omega, List.replicate_succ]
        rfl
      right
      rcases L0 with ⟨a, b⟩ | ⟨a, b⟩
      · right
        exact ⟨e, by rw [ll]; omega, by omega, by rw [ll]; omega⟩
      · left
        exact ⟨e, by rw [ll]; omega⟩
end Wh
end Go.Proofs.YtbldddagddmbgaaDoor

namespace Go.Proofs.YtbldddagddmbgaaDoor
open Go Go.RowKit Go.Deep Go.Shelf

theorem s4_far {w : World} {b c o : Nat} {v v0 v1 v2 v3 : Value} (h : S4 w b v0 v1 v2 v3) (hc : c ≠ b) : S4 (w.setCell ⟨c, o, none⟩ v) b v0 v1 v2 v3 := by
  simp only [S4] at *
  simp only [World.setCell, Array.getElem?_modify]
  rw [if_neg hc]; exact h

structure WB (w0 : World) (sb bb : Nat) (V F W P : Int) (wk : World) : Prop where
  bel : Below w0.heap.size w0 wk
  s : S4 wk sb (.int .u8 V) (.int .i64 F) (.int .i64 W) (.int .i64 P)
  b : S4 wk bb (.int .u8 V) (.int .i64 F) (.int .i64 0) (.int .i64 P)
  ne : sb ≠ bb
  ls : w0.heap.size ≤ sb
  lb : w0.heap.size ≤ bb
theorem WB.on {w0 wk w' : World} {sb bb : Nat} {V F W P : Int} (h : WB w0 sb bb V F W P wk) (k : Below wk.heap.size wk w') : WB w0 sb bb V F W P w' :=
  ⟨below_on h.bel k, h.s.below k, h.b.below k, h.ne, h.ls, h.lb⟩
theorem WB.put {w0 wk : World} {sb bb : Nat} {V F W P : Int} (h : WB w0 sb bb V F W P wk) (v : Int) : WB w0 sb bb v F W P ((wk.setCell ⟨sb, 0, none⟩ (.int .u8 v)).setCell ⟨bb, 0, none⟩ (.int .u8 v)) :=
  ⟨(h.bel.setCell (p := ⟨sb, 0, none⟩) h.ls _).setCell (p := ⟨bb, 0, none⟩) h.lb _, s4_far (set1 h.s rfl) h.ne.symm, set1 (s4_far h.b h.ne) rfl, h.ne, h.ls, h.lb⟩
theorem WB.flat {w0 wk : World} {sb bb : Nat} {V F W P : Int} (h : WB w0 sb bb V F W P wk) : (wk.cell? ⟨sb, 0, none⟩ = some (.int .u8 V) ∧ wk.cell? ⟨sb, 1, none⟩ = some (.int .i64 F) ∧ wk.cell? ⟨sb, 2, none⟩ = some (.int .i64 W) ∧ wk.cell? ⟨sb, 3, none⟩ = some (.int .i64 P)) ∧ (wk.cell? ⟨bb, 0, none⟩ = some (.int .u8 V) ∧ wk.cell? ⟨bb, 1, none⟩ = some (.int .i64 F) ∧ wk.cell? ⟨bb, 2, none⟩ = some (.int .i64 0) ∧ wk.cell? ⟨bb, 3, none⟩ = some (.int .i64 P)) := ⟨h.s.cells.1, h.b.cells.1⟩
theorem WB.free {w0 wk : World} {sb bb : Nat} {V F W P : Int} (h : WB w0 sb bb V F W P wk) : wk.frozen? ⟨sb, 0, none⟩ = false ∧ wk.frozen? ⟨bb, 0, none⟩ = false := ⟨h.s.cells.2.1, h.b.cells.2.1⟩
end Go.Proofs.YtbldddagddmbgaaDoor
