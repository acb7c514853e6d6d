/-
  law12: near, in the last place.
-/
import Derived.Test.YtjkefcikepnbpaaGreatDoorLRowB
import Derived.Test.YtjkefcikepnbpaaGreatDoorFRow3
import Derived.Test.YtjkefcikepnbpaaGreatDoorLNum
import Derived.Deep.RegionHeld3
import Derived.Deep.CutBlock
import Derived.Deep.CutRange
import Derived.Deep.LoopGhost
namespace Go.Proofs.YtjkefcikepnbpaaGreatDoor
open Go Go.RowKit Go.Deep

namespace Sh
theorem dv_set {zs : List Int} {i : Nat} (h : i < zs.length) (v : Int) : dv (zs.set i v) = dv zs + (v - zs.getD i 0) * 10 ^ (zs.length - 1 - i) := by
  have e1 : zs = zs.take i ++ zs.getD i 0 :: zs.drop (i + 1) := by
    conv => lhs; rw [← List.take_append_drop i zs, List.drop_eq_getElem_cons h]
    simp [List.getD, List.getElem?_eq_getElem h]
  have e2 : zs.set i v = zs.take i ++ v :: zs.drop (i + 1) := by
    rw [List.set_eq_take_append_cons_drop, if_pos h]
  have l1 : (zs.drop (i + 1)).length = zs.length - 1 - i := by rw [List.length_drop]; omega
  rw [e2, dv_append, dv_cons, l1]
  conv => rhs; rw [e1]
  rw [dv_append, dv_cons, l1, List.length_cons, List.length_cons, ← e1]
  rw [show (zs.getD i 0 - 48) * 10 ^ (zs.length - 1 - i) + dv (zs.drop (i + 1)) = (zs.getD i 0) * 10 ^ (zs.length - 1 - i) - 48 * 10 ^ (zs.length - 1 - i) + dv (zs.drop (i + 1)) by rw [Int.sub_mul]]
  rw [Int.sub_mul, Int.sub_mul]
  omega
theorem digs_set {zs : List Int} {i : Nat} {v : Int} (h : Digs zs) (hv : 48 ≤ v ∧ v ≤ 57) : Digs (zs.set i v) := fun d hd => by
  rcases List.mem_or_eq_of_mem_set hd with q | q
  · exact h d q
  · rw [q]; exact hv
theorem digs_get {zs : List Int} {i : Nat} (h : Digs zs) (hi : i < zs.length) : 48 ≤ zs.getD i 0 ∧ zs.getD i 0 ≤ 57 := by
  have := h _ (List.getElem_mem hi)
  simpa [List.getD, List.getElem?_eq_getElem hi] using this
theorem get_set0 {zs : List Int} {k : Nat} {v : Int} (hk : 0 < k) : (zs.set k v).getD 0 0 = zs.getD 0 0 := by
  rw [List.getD_eq_getElem?_getD, List.getElem?_set_ne (by omega), List.getD_eq_getElem?_getD]

/-- A row on its way one step up (q = 1) or down (q = -1), the step still owed at the place k. -/
structure Stp (T q : Int) (N k : Nat) (zs : List Int) : Prop where
  len : zs.length = N
  digs : Digs zs
  head : zs.getD 0 0 = 48
  kN : k < N
  eq : dv zs + q * 10 ^ (N - 1 - k) = T
theorem Stp.first {xs : List Int} (h : Digs xs) (q : Int) : Stp (dv xs + q) q (xs.length + 1) xs.length (48 :: xs) := by
  refine ⟨by simp, fun d hd => ?_, rfl, by omega, ?_⟩
  · rcases List.mem_cons.1 hd with z | z
    · omega
    · exact h d z
  · rw [dv_cons]
    simp
theorem Stp.on {T q : Int} {N k : Nat} {zs : List Int} (h : Stp T q N k zs) (hk : 0 < k) {v : Int} (hv : 48 ≤ v ∧ v ≤ 57) (hq : v - zs.getD k 0 = - 9 * q) : Stp T q N (k - 1) (zs.set k v) := by
  have kN := h.kN
  refine ⟨by rw [List.length_set, h.len], digs_set h.digs hv, by rw [get_set0 hk]; exact h.head, by omega, ?_⟩
  rw [dv_set (by rw [h.len]; exact kN), h.len, hq, ← h.eq, show N - 1 - (k - 1) = (N - 1 - k) + 1 by omega, Int.pow_succ, ← Int.mul_assoc]
  generalize (10 : Int) ^ (N - 1 - k) = P
  rw [Int.mul_assoc (-9) q P]
  omega
theorem Stp.last {T q : Int} {N k : Nat} {zs : List Int} (h : Stp T q N k zs) {v : Int} (hv : 48 ≤ v ∧ v ≤ 57) (hq : v = zs.getD k 0 + q) : dv (zs.set k v) = T ∧ Digs (zs.set k v) ∧ (zs.set k v).length = N := by
  refine ⟨?_, digs_set h.digs hv, by rw [List.length_set, h.len]⟩
  rw [dv_set (by rw [h.len]; exact h.kN), h.len, hq, ← h.eq]
  congr 2
  omega
theorem Stp.low {T : Int} {N k : Nat} {zs : List Int} (h : Stp T (-1) N k zs) (hT : 0 ≤ T) (hk : k = 0 ∨ zs.getD k 0 ≠ 48) : 49 ≤ zs.getD k 0 := by
  have kN := h.kN
  have b := digs_get h.digs (show k < zs.length by rw [h.len]; exact kN)
  rcases hk with rfl | c
  · exfalso
    have e := h.eq
    have hl := h.len
    have hh := h.head
    match zs, hl with
    | x :: ys, hl =>
      simp at hh
      subst hh
      have d2 := dv_bd (ds := ys) (fun d hd => h.digs d (by simp [hd]))
      rw [dv_cons] at e
      have l2 : ys.length = N - 1 - 0 := by simp at hl; omega
      rw [l2] at d2
      rw [l2] at e
      generalize (10 : Int) ^ (N - 1 - 0) = P at *
      omega
  · omega
end Sh

theorem lstr_app {a b : ByteArray} {xs ys : List Int} (h : Str a xs) (k : Str b ys) : Str (a ++ b) (xs ++ ys) := by
  unfold Str at *
  rw [ByteArray.data_append, Array.toList_append, List.map_append, h, k]

/-- The row in its block, the boxes, and what has changed. -/
def NrS (w : World) (neg : Bool) (s : ByteArray) (e : Int) (N : Nat) (zs : List Int) (wr : World) : Prop :=
  ∃ es, OwnL wr (w.heap.size + 2) es ∧ N ≤ es.length ∧ es.take N = zs ∧ FR3 wr w.heap.size (.bool neg) (.string s) (.int .i64 e) ∧ FR3 wr (w.heap.size + 1) (.bool false) (.string ⟨#[]⟩) (.int .i64 0) ∧ Below w.heap.size w wr
theorem NrS.cell {w : World} {neg : Bool} {s : ByteArray} {e : Int} {N : Nat} {zs : List Int} {wr : World} (h : NrS w neg s e N zs wr) {i : Nat} (hi : i < N) : wr.cell? ⟨w.heap.size + 2, i, none⟩ = some (.int .u8 (zs.getD i 0)) := by
  obtain ⟨es, o, l, rfl, _⟩ := h
  rw [o.cell i (by omega), Nm.getD_take, if_pos hi]
theorem NrS.free {w : World} {neg : Bool} {s : ByteArray} {e : Int} {N : Nat} {zs : List Int} {wr : World} (h : NrS w neg s e N zs wr) {i : Nat} (hi : i < N) : wr.frozen? ⟨w.heap.size + 2, i, none⟩ = false := by
  obtain ⟨es, o, l, _⟩ := h
  exact o.free i (by omega)
theorem NrS.set {w : World} {neg : Bool} {s : ByteArray} {e : Int} {N : Nat} {zs : List Int} {wr : World} (h : NrS w neg s e N zs wr) (i : Nat) (v : Int) : NrS w neg s e N (zs.set i v) (wr.setCell ⟨w.heap.size + 2, i, none⟩ (.int .u8 v)) := by
  obtain ⟨es, o, l, rfl, x, y, b⟩ := h
  exact ⟨es.set i v, o.set i v, by rw [List.length_set]; exact l, by rw [List.take_set], x.far (by omega), y.far (by omega), b.setCell (p := ⟨w.heap.size + 2, i, none⟩) (by show w.heap.size ≤ w.heap.size + 2; omega) _⟩
theorem NrS.str {w : World} {neg : Bool} {s : ByteArray} {e : Int} {N : Nat} {zs : List Int} {wr : World} (h : NrS w neg s e N zs wr) (hd : Digs zs) (cap : Nat) : ∃ t, Str t zs ∧ (convert 38 9 (.slice (some ⟨w.heap.size + 2, 0, none⟩) N cap)).run Tryz.prog wr = .ok (.string t) wr := by
  obtain ⟨es, o, l, rfl, _⟩ := h
  exact own_strL o l hd

def NearTold (neg : Bool) (T : Int) (N : Nat) (e : Int) (w : World) (r : Ending) (w' : World) : Prop :=
  ∃ t rs, r = .returned (.agg #[.bool neg, .string t, .int .i64 e]) ∧ Str t rs ∧ Digs rs ∧ rs.length = N ∧ dv rs = T ∧ Below w.heap.size w w'

set_option maxRecDepth 100000 in
set_option maxHeartbeats 4000000 in
theorem near_any (neg : Bool) (s : ByteArray) (xs : List Int) (e : Int) (up : Bool) (w : World) (hs : Str s xs) (hn : Fx.Nml xs) (hl : xs.length ≤ 1000) :
    Calls Tryz.prog 20 #[.agg #[.bool neg, .string s, .int .i64 e], .int .i64 e, .bool up] w fun r w' => NearTold neg (dv xs + (if up = true then 1 else -1)) (xs.length + 1) e w r w' := by
  have SZ : Str (⟨#[48]⟩ ++ s) (48 :: xs) := lstr_app (a := ⟨#[48]⟩) (xs := [48]) rfl hs
  have hsz := hs.size
  have z1 : (⟨#[48]⟩ ++ s : ByteArray).size = xs.length + 1 := by rw [SZ.size]; simp
  obtain ⟨wA, hwA⟩ : ∃ wA, (w.alloc (.cells #[.bool neg, .string s, .int .i64 e] 25)).alloc (.cells #[.bool false, .string ⟨#[]⟩, .int .i64 0] 25) = wA := ⟨_, rfl⟩
  have a1 := alloc_b w (.cells #[.bool neg, .string s, .int .i64 e] 25)
  have a2 := alloc_b (w.alloc (.cells #[.bool neg, .string s, .int .i64 e] 25)) (.cells #[.bool false, .string ⟨#[]⟩, .int .i64 0] 25)
  have s1 : (w.alloc (.cells #[.bool neg, .string s, .int .i64 e] 25)).heap.size = w.heap.size + 1 := Array.size_push ..
  have F1 := (FR3.new w (.bool neg) (.string s) (.int .i64 e)).below a2 (by rw [s1]; omega)
  have F2 := FR3.new (w.alloc (.cells #[.bool neg, .string s, .int .i64 e] 25)) (.bool false) (.string ⟨#[]⟩) (.int .i64 0)
  have s2 : wA.heap.size = w.heap.size + 2 := by rw [← hwA]; exact (Array.size_push ..).trans (by rw [s1])
  have BA := a1.trans (a2.mono a1.size)
  rw [hwA] at F1 F2 BA
  rw [s1] at F2
  obtain ⟨cap, es, w1, CV, OF, est, esl, BW⟩ := bytes_madeL SZ wA
  rw [z1, s2] at CV
  rw [s2] at OF BW
  obtain ⟨N, hN⟩ : ∃ N, xs.length + 1 = N := ⟨_, rfl⟩
  obtain ⟨K, hK⟩ : ∃ K, xs.length = K := ⟨_, rfl⟩
  have le : (48 :: xs).length = N := by rw [← hN]; rfl
  rw [le] at est esl
  have I0 : Hid (NrS w neg s e N (48 :: xs) w1) := ⟨es, OF, esl, est, F1.below BW (by omega), F2.below BW (by omega), BA.trans (BW.mono (by omega))⟩
  have S0 : ∀ q : Int, Sh.Stp (dv xs + q) q N K (48 :: xs) := fun q => by rw [← hN, ← hK]; exact Sh.Stp.first hn.digs q
  have hp := Sh.nml_pos hn
  rw [hN] at CV z1 ⊢
  have NK : Hid (N = K + 1) := by rw [Hid]; omega
  have hNi : (N : Int) = (K : Int) + 1 := by omega
  have hKi : (K : Int) ≤ 1000 := by omega
  have wk : IntKind.i64.wrap ((N : Int) - 1) = (N : Int) - 1 := by rw [IntKind.wrap_i64]; omega
  obtain ⟨⟨c0, c1, c2⟩, _⟩ := F1.cells
  have zb : ¬ 9223372036854775807 < 1 + s.size := by omega
  have szi : (s.size : Int) ≤ 1000 := by omega
  clear hsz a1 a2 s1 F1 F2 OF est esl le hN hK hs hn hl BA BW SZ s2
  have HNi := hid hNi
  clear hNi
  generalize hD : dv xs = D at *
  have LAST : Hid (∀ (T : Int) (wr : World) (zs : List Int), NrS w neg s e N zs wr → dv zs = T → Digs zs → zs.length = N → ∃ t, (convert 38 9 (.slice (some ⟨w.heap.size + 2, 0, none⟩) N cap)).run Tryz.prog wr = .ok (.string t) wr ∧ (∃ cz, wr.cell? ⟨w.heap.size, 0, none⟩ = some (.bool neg) ∧ FR3 wr (w.heap.size + 1) (.bool false) (.string ⟨#[]⟩) (.int .i64 0) ∧ cz = zs) ∧ ∀ w', Below w.heap.size w w' → NearTold neg T N e w (.returned (.agg #[.bool neg, .string t, .int .i64 e])) w') := by
    intro T wr zs h1 h2 h3 h4
    obtain ⟨t, ht, cv⟩ := h1.str h3 cap
    obtain ⟨_, _, _, _, f, f2, _⟩ := h1
    exact ⟨t, cv, ⟨zs, f.cells.1.1, f2, rfl⟩, fun w' hb => ⟨t, zs, rfl, ht, h3, h4, h2, hb⟩⟩
  cases up with
  | true =>
    have SU := hid (S0 1)
    clear S0 hp
    go_enter Tryz.func20, Tryz.ntmps20
    go_upto_region 1 with fail
    clear hwA
    go_wp2_with fail
    go_loopg [7, 8] 0 (fun _ rv iv wr => rv = .slice (some ⟨w.heap.size + 2, 0, none⟩) N cap ∧ iv = .int .i64 e ∧ Hid (NrS w neg s e N (48 :: xs) wr))
    case atStart => exact ⟨rfl, rfl, I0⟩
    case round =>
      obtain ⟨rfl, rfl, I⟩ := hrel
      obtain ⟨_, _, _, _, f, _⟩ := I.out
      obtain ⟨⟨d0, d1, d2⟩, _⟩ := f.cells
      clear f c0 c1 c2 I0
      go_wp2_with fail
      go_loopg [9] K (fun k kv wr => kv = .int .i64 (k : Int) ∧ Hid (∃ zs, NrS w neg s e N zs wr ∧ Sh.Stp (D + 1) 1 N k zs))
      case atStart => exact ⟨by rw [HNi.out]; go_num, _, I.out, SU.out⟩
      case round =>
        obtain ⟨rfl, J⟩ := hrel
        obtain ⟨zs, R, S⟩ := J.out
        clear J I d0 d1 d2
        have gN : gk < N := S.kN
        have gi : (gk : Int) < (N : Int) := by omega
        have cz := R.cell gN
        have fz := R.free gN
        have bz := Sh.digs_get S.digs (show gk < zs.length by rw [S.len]; exact gN)
        by_cases hc : 0 < gk ∧ zs.getD gk 0 = 57
        · have g0 : (0 : Int) < (gk : Int) := by omega
          have wg : IntKind.i64.wrap ((gk : Int) - 1) = (gk : Int) - 1 := by rw [IntKind.wrap_i64]; have := HNi.out; omega
          have NX : Hid (∃ zs', NrS w neg s e N zs' (wr.setCell ⟨w.heap.size + 2, gk, none⟩ (.int .u8 48)) ∧ Sh.Stp (D + 1) 1 N (gk - 1) zs') := ⟨_, R.set gk 48, S.on hc.1 (by omega) (by rw [hc.2]; omega)⟩
          rw [hc.2] at cz
          have gk1 : Hid (0 < gk) := hc.1
          clear R S bz hc
          go_wp2_with fail
          go_roundg (gk - 1)
          case measure => have := gk1.out; omega
          case rel => exact ⟨by rw [show ((gk - 1 : Nat) : Int) = (gk : Int) - 1 by have := gk1.out; omega], NX.out⟩
        · have hx : zs.getD gk 0 ≤ 56 := by
            rcases (show gk = 0 ∨ zs.getD gk 0 ≠ 57 by omega) with q | q
            · subst q; rw [S.head]; omega
            · omega
          have NX := S.last (v := zs.getD gk 0 + 1) (by omega) rfl
          have RX := R.set gk (zs.getD gk 0 + 1)
          obtain ⟨t, cv, ⟨_, x0, x1, _⟩, FT⟩ := LAST.out _ _ _ RX NX.1 NX.2.1 NX.2.2
          have B7 := RX
          obtain ⟨_, _, _, _, _, _, b7⟩ := B7
          have FT := hid FT
          have X1 := hid x1
          have B7 := hid b7
          clear R S NX RX b7 x1
          rcases (show gk = 0 ∨ (0 < gk ∧ zs.getD gk 0 ≠ 57) by omega) with q | ⟨q1, q2⟩
          · subst q
            have e48 := hid hc
            clear hc
            generalize zs.getD 0 0 = X at *
            have wx : IntKind.u8.wrap (X + 1) = X + 1 := by rw [IntKind.wrap_u8]; omega
            obtain ⟨⟨y0, y1, y2⟩, v0, v1, v2⟩ := X1.out.cells
            go_wp2_with fail
            (try simp only [Exit.inBlock, Exit.then])
            refine bodyPost_ret (results_cell_row rfl _ _ (w.heap.size + 1) 25 _ (0, 0) _ rfl (X1.out.put _ _ _) Tryz.underlying25 rfl (by kernel_rfl)) rfl ?_
            exact FT.out _ (fset3_below B7.out (by omega))
          · have q3 : (zs.getD gk 0 == 57) = false := by simpa using q2
            have g0 : (0 : Int) < (gk : Int) := by omega
            clear hc q1
            generalize zs.getD gk 0 = X at *
            have wx : IntKind.u8.wrap (X + 1) = X + 1 := by rw [IntKind.wrap_u8]; omega
            obtain ⟨⟨y0, y1, y2⟩, v0, v1, v2⟩ := X1.out.cells
            go_wp2_with fail
            (try simp only [Exit.inBlock, Exit.then])
            refine bodyPost_ret (results_cell_row rfl _ _ (w.heap.size + 1) 25 _ (0, 0) _ rfl (X1.out.put _ _ _) Tryz.underlying25 rfl (by kernel_rfl)) rfl ?_
            exact FT.out _ (fset3_below B7.out (by omega))
  | false =>
    have SU := hid (S0 (-1))
    have HP := hid hp
    clear S0 hp
    go_enter Tryz.func20, Tryz.ntmps20
    go_upto_region 1 with fail
    clear hwA
    go_wp2_with fail
    go_loopg [7, 8] 0 (fun _ rv iv wr => rv = .slice (some ⟨w.heap.size + 2, 0, none⟩) N cap ∧ iv = .int .i64 e ∧ Hid (NrS w neg s e N (48 :: xs) wr))
    case atStart => exact ⟨rfl, rfl, I0⟩
    case round =>
      obtain ⟨rfl, rfl, I⟩ := hrel
      obtain ⟨_, _, _, _, f, _⟩ := I.out
      obtain ⟨⟨d0, d1, d2⟩, _⟩ := f.cells
      clear f c0 c1 c2 I0
      go_wp2_with fail
      go_loopg [9] K (fun k kv wr => kv = .int .i64 (k : Int) ∧ Hid (∃ zs, NrS w neg s e N zs wr ∧ Sh.Stp (D + -1) (-1) N k zs))
      case atStart => exact ⟨by rw [HNi.out]; go_num, _, I.out, SU.out⟩
      case round =>
        obtain ⟨rfl, J⟩ := hrel
        obtain ⟨zs, R, S⟩ := J.out
        clear J I d0 d1 d2
        have gN : gk < N := S.kN
        have gi : (gk : Int) < (N : Int) := by omega
        have cz := R.cell gN
        have fz := R.free gN
        have bz := Sh.digs_get S.digs (show gk < zs.length by rw [S.len]; exact gN)
        by_cases hc : 0 < gk ∧ zs.getD gk 0 = 48
        · have g0 : (0 : Int) < (gk : Int) := by omega
          have wg : IntKind.i64.wrap ((gk : Int) - 1) = (gk : Int) - 1 := by rw [IntKind.wrap_i64]; have := HNi.out; omega
          have NX : Hid (∃ zs', NrS w neg s e N zs' (wr.setCell ⟨w.heap.size + 2, gk, none⟩ (.int .u8 57)) ∧ Sh.Stp (D + -1) (-1) N (gk - 1) zs') := ⟨_, R.set gk 57, S.on hc.1 (by omega) (by rw [hc.2]; omega)⟩
          rw [hc.2] at cz
          have gk1 : Hid (0 < gk) := hc.1
          clear R S bz hc
          go_wp2_with fail
          go_roundg (gk - 1)
          case measure => have := gk1.out; omega
          case rel => exact ⟨by rw [show ((gk - 1 : Nat) : Int) = (gk : Int) - 1 by have := gk1.out; omega], NX.out⟩
        · have hx : 49 ≤ zs.getD gk 0 := S.low (by have := HP.out; omega) (by omega)
          have q2 : 0 < gk := by
            rcases Nat.eq_zero_or_pos gk with q | q
            · subst q; rw [S.head] at hx; omega
            · exact q
          have NX := S.last (v := zs.getD gk 0 - 1) (by omega) (by omega)
          have RX := R.set gk (zs.getD gk 0 - 1)
          obtain ⟨t, cv, ⟨_, x0, x1, _⟩, FT⟩ := LAST.out _ _ _ RX NX.1 NX.2.1 NX.2.2
          have B7 := RX
          obtain ⟨_, _, _, _, _, _, b7⟩ := B7
          have FT := hid FT
          have X1 := hid x1
          have B7 := hid b7
          clear R S NX RX b7 x1
          have q3 : (zs.getD gk 0 == 48) = false := by simpa using (show zs.getD gk 0 ≠ 48 by omega)
          have g0 : (0 : Int) < (gk : Int) := by omega
          clear hc q2
          generalize zs.getD gk 0 = X at *
          have wx : IntKind.u8.wrap (X - 1) = X - 1 := by rw [IntKind.wrap_u8]; omega
          obtain ⟨⟨y0, y1, y2⟩, v0, v1, v2⟩ := X1.out.cells
          go_wp2_with fail
          (try simp only [Exit.inBlock, Exit.then])
          refine bodyPost_ret (results_cell_row rfl _ _ (w.heap.size + 1) 25 _ (0, 0) _ rfl (X1.out.put _ _ _) Tryz.underlying25 rfl (by kernel_rfl)) rfl ?_
          exact FT.out _ (fset3_below B7.out (by omega))
end Go.Proofs.YtjkefcikepnbpaaGreatDoor
