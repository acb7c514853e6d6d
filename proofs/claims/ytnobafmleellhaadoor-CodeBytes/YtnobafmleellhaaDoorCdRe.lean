/-
  code's reader: doubles.
-/
import Derived.Test.YtnobafmleellhaaDoorCdRd
import Derived.Test.YtnobafmleellhaaDoorCdRo
import Derived.Laws.MakeOwn
import Derived.Laws.BitsAllLaws
namespace Go.Proofs.YtnobafmleellhaaDoor
open Go Go.RowKit Go.Deep Go.Shelf

namespace Cd
/-- Words in memory. -/
def UB (w : World) (b : Nat) (l : List Int) : Prop := Bx w b 51 (l.map (Value.int .u64)).toArray
theorem UB.cell {w : World} {b : Nat} {l : List Int} (h : UB w b l) (i : Nat) (hi : i < l.length) : w.cell? ⟨b, i, none⟩ = some (.int .u64 (l.getD i 0)) := by
  refine Bx.cell h i _ ?_
  simp [List.getD, hi]
theorem UB.free {w : World} {b : Nat} {l : List Int} (h : UB w b l) (i : Nat) : w.frozen? ⟨b, i, none⟩ = false := Bx.free h i
theorem UB.on {w w' : World} {b : Nat} {l : List Int} (h : UB w b l) (hB : Below w.heap.size w w') : UB w' b l := Bx.on h hB
theorem UB.put {w : World} {b : Nat} {l : List Int} (h : UB w b l) (i : Nat) (x : Int) : UB (w.setCell ⟨b, i, none⟩ (.int .u64 x)) b (l.set i x) := by
  have := Bx.set h i (.int .u64 x)
  unfold UB
  rw [List.setIfInBounds_toArray, ← List.map_set] at this
  exact this
theorem UB.lt {w : World} {b : Nat} {l : List Int} (h : UB w b l) : b < w.heap.size := Bx.lt h
theorem or_add (o c r : Nat) (ho : o < 256 ^ r) (hc : c < 256) (hr : r < 8) : bits .or .u64 (o : Int) ((c * 256 ^ r : Nat) : Int) = ((o + c * 256 ^ r : Nat) : Int) := by
  have p8 : (256 : Nat) ^ r = 2 ^ (8 * r) := by rw [show (256 : Nat) = 2 ^ 8 from rfl, ← Nat.pow_mul]
  have pl : (256 : Nat) ^ r ≤ 256 ^ 7 := Nat.pow_le_pow_right (by omega) (by omega)
  have c1 : c * 256 ^ r ≤ 255 * 256 ^ 7 := Nat.mul_le_mul (by omega) pl
  have l1 : o < 18446744073709551616 := by
    have : (256 : Nat) ^ 7 = 72057594037927936 := rfl
    omega
  have l2 : c * 256 ^ r < 18446744073709551616 := by
    have : 255 * (256 : Nat) ^ 7 = 18374686479671623680 := rfl
    omega
  rw [u64_or_nat o (c * 256 ^ r) l1 l2]
  congr 1
  rw [p8] at ho ⊢
  have := Nat.two_pow_add_eq_or_of_lt ho c
  rw [Nat.mul_comm c, Nat.or_comm, ← this, Nat.add_comm]
end Cd
theorem cd_infou : (Tryd.prog.info? 51).map (fun i => (i.zero, i.size, i.bytes)) = some (some (.int .u64 0), 1, 8) := by kernel_rfl
theorem cd_madeu (n : Nat) : madeCells #[Value.int .u64 0] n = ((List.replicate n (0 : Int)).map (Value.int .u64)).toArray := by
  apply Array.toList_inj.1
  rw [toList_madeCells_one]
  simp
theorem cd_makeu (n : Nat) (hn : n ≤ 17592186044416) (w : World) : (Instr.makeSlice 28 (.int .i64 (n : Int)) (.int .i64 (n : Int))).run Tryd.prog w = .ok (.slice (some ⟨w.heap.size, 0, none⟩) n n) (w.alloc (.cells ((List.replicate n (0 : Int)).map (Value.int .u64)).toArray 51)) := by
  have r := run_make_row' (P := Tryd.prog) 28 51 (.int .u64 0) 8 Tryd.underlying28 cd_infou rfl .i64 .i64 n (by omega) (by omega) w
  rw [cd_madeu n] at r
  exact r
set_option maxRecDepth 100000 in
set_option maxHeartbeats 8000000 in
theorem rdoubles_any {w : World} {rb : Nat} {q : Option Addr} {B : Ch.L8} {cap : Nat} {s : Cd.Rd} (h : Cd.RT w rb q B cap s) :
    Calls Tryd.prog 38 #[.pointer (some ⟨rb, 0, none⟩)] w fun e w' => ∃ g, e = .returned (.slice (some ⟨g, 0, none⟩) (Cd.dbs B s).1.length (Cd.dbs B s).1.length) ∧ w.heap.size ≤ g ∧ Cd.UB w' g (Cd.dbs B s).1 ∧ Cd.RT w' rb q B cap (Cd.dbs B s).2 ∧ Re.Kp (fun b => b = rb) w w' := by
  have rl := h.bx.lt
  have hlen := h.len
  have N1 := hid (rnumber_any h)
  have nl := Cd.nb_le B s
  obtain ⟨D, hD⟩ : ∃ D, Cd.dbs B s = D := ⟨_, rfl⟩
  have D1 : D = (Cd.wds ((Cd.take (8 * (Cd.nb B s).1) B (Cd.nb B s).2).1.length / 8) (Cd.take (8 * (Cd.nb B s).1) B (Cd.nb B s).2).1, (Cd.take (8 * (Cd.nb B s).1) B (Cd.nb B s).2).2) := by rw [← hD]; rfl
  have TL := Cd.take_len (8 * (Cd.nb B s).1) B (Cd.nb B s).2
  have TE := Cd.take_le (8 * (Cd.nb B s).1) B (Cd.nb B s).2
  have TK : Hid (∀ W, Cd.RT W rb q B cap (Cd.nb B s).2 → Calls Tryd.prog 65 #[.pointer (some ⟨rb, 0, none⟩), .int .i64 (8 * ((Cd.nb B s).1 : Int))] W fun e w' => Cd.TK W rb q B cap (Cd.take (8 * (Cd.nb B s).1) B (Cd.nb B s).2) e w') := fun W hW => by
    have := rtake_any hW (8 * (Cd.nb B s).1) (by omega)
    rwa [show ((8 * (Cd.nb B s).1 : Nat) : Int) = 8 * ((Cd.nb B s).1 : Int) by omega] at this
  rw [hD]
  generalize Cd.nb B s = NB at *
  obtain ⟨n, s1⟩ := NB
  simp only at *
  generalize Cd.take (8 * n) B s1 = TT at *
  obtain ⟨L, s2⟩ := TT
  simp only at *
  obtain ⟨N, hN⟩ : ∃ N, L.length = 8 * N := by
    rcases TL with e | e
    · exact ⟨n, e⟩
    · exact ⟨0, by omega⟩
  have hN8 : L.length / 8 = N := by omega
  rw [hN8] at D1
  have D2 : D.1.length = N := by rw [D1]; simp [Cd.wds]
  have D3 : D.2 = s2 := by rw [D1]
  have D4 : D.1 = Cd.wp L N L.length := by rw [D1, Cd.wp_all]
  rw [D2, D3, D4, hN]
  have hn2 : (n : Int) ≤ 2147483647 := by omega
  have hL0 : ((L.length : Nat) : Int) / 8 = (N : Int) := by omega
  have MK := hid (fun W => cd_makeu N (by omega) W)
  have hLb : (L.length : Int) ≤ 1099511627776 := by omega
  have hNb : (N : Int) ≤ 1099511627776 := by omega
  have WZ := Cd.wp_zero L N
  clear hD D1 D2 D3 D4 TL hN8 TE nl h hlen
  have WL : ∀ m, (Cd.wp L N m).length = N := Cd.wp_len L N
  have WS : Hid (∀ j r c, r < 8 → L[8 * j + r]? = some c → j < N → _) := fun j r c hr hc hj => Cd.wp_step (N := N) hr hc hj
  have GX : Hid (∀ k, k < 8 * N → ∃ x, L[k]? = some x) := fun k hk => ⟨_, List.getElem?_eq_getElem (by omega)⟩
  generalize Cd.wp L N = V at *
  go_enter Tryd.func38, Tryd.ntmps38
  go_upto_region 2 with (first
    | (go_at_call 66; refine N1.out.mono ?_; rintro e w2 ⟨rfl, g1, g2⟩; have R2 := hid g1; have K2 := hid g2; clear g1 g2 N1)
    | (go_at_call 65; refine (TK.out _ R2.out).mono ?_; rintro e w3 ⟨t, c, rfl, h1, h2, h3, h4, h5⟩; have R3 := hid h3; have K3 := hid (K2.out.trans h4); have BT := hid h1; have NT := hid h2; clear h1 h2 h3 h4 TK R2 K2))
  have mk := MK.out w3
  have r3 : w.heap.size ≤ w3.heap.size := K3.out.size
  have U1 : Hid (Cd.UB (w3.alloc (.cells (Array.replicate N (Value.int .u64 0)) 51)) w3.heap.size (V 0) ∧ Below w3.heap.size w3 (w3.alloc (.cells (Array.replicate N (Value.int .u64 0)) 51))) := by
    have e : Array.replicate N (Value.int .u64 0) = ((List.replicate N (0 : Int)).map (Value.int .u64)).toArray := by simp
    rw [WZ, e]
    exact ⟨Bx.new w3 51 _, alloc_b w3 _⟩
  have FF : Hid (∀ W, Cd.UB W w3.heap.size (V L.length) → Below w3.heap.size w3 W → ∃ g, Ending.returned (.slice (some ⟨w3.heap.size, 0, none⟩) N N) = .returned (.slice (some ⟨g, 0, none⟩) N N) ∧ w.heap.size ≤ g ∧ Cd.UB W g (V L.length) ∧ Cd.RT W rb q B cap s2 ∧ Re.Kp (fun b => b = rb) w W) := fun W h1 h2 =>
    ⟨_, rfl, r3, h1, R3.out.on h2, K3.out.trans (Re.Kp.of h2)⟩
  rw [hN] at FF
  go_upto_region 3 with fail
  clear mk MK WZ hLb hL0 K3 R3 NT
  have BL : Hid (∀ W, Below w3.heap.size w3 W → Cd.BR W t L) := fun W hW => BT.out.on hW
  generalize w3.heap.size = g at *
  generalize w3.alloc (.cells (Array.replicate N (Value.int .u64 0)) 51) = w4 at *
  go_wp2_with fail
  go_loopg [18] (8 * N) (fun m iv wr => ∃ k : Nat, k + m = 8 * N ∧ iv = .int .i64 (k : Int) ∧ Hid (Cd.UB wr g (V k) ∧ Below g w3 wr))
  case atStart => exact ⟨0, by omega, rfl, U1⟩
  case round =>
    obtain ⟨k, hk, rfl, J⟩ := hrel
    clear U1
    by_cases kl : k < 8 * N
    · have kli : (k : Int) < 8 * (N : Int) := by omega
      obtain ⟨x, hx⟩ := GX.out k kl
      obtain ⟨b, off, rfl, cx⟩ := BL.out wr J.out.2 k x hx
      obtain ⟨j, r, hr, hjr⟩ : ∃ j r, r < 8 ∧ k = 8 * j + r := ⟨k / 8, k % 8, by omega, by omega⟩
      have jN : j < N := by omega
      rw [hjr] at hx
      obtain ⟨w1, w2, w3'⟩ := WS.out j r x hr hx jN
      rw [← hjr] at w1 w2 w3'
      have kj : (k : Int) / 8 = (j : Int) := by omega
      have jNi : (j : Int) < (N : Int) := by omega
      have ln : (V k).length = N := WL k
      have kb : (k : Int) ≤ 8796093022208 := by omega
      have cs : r = 0 ∨ r = 1 ∨ r = 2 ∨ r = 3 ∨ r = 4 ∨ r = 5 ∨ r = 6 ∨ r = 7 := by omega
      have xl := x.toNat_lt
      obtain ⟨o, ho⟩ : ∃ o : Nat, (V k).getD j 0 = (o : Int) := ⟨((V k).getD j 0).toNat, by omega⟩
      have OR := Cd.or_add o x.toNat r (by rw [ho] at w3'; have q : (((256 ^ r : Nat)) : Int) = (256 : Int) ^ r := by rw [Int.natCast_pow]; rfl
                                           rw [← q] at w3'; exact Int.ofNat_lt.1 w3') (by omega) hr
      have U0 : Hid (Below wr.heap.size wr wr.drew) := Below.drew (Below.refl _ _)
      have J0 := hid (J.out.1.on U0.out)
      have c0 := J0.out.cell j (by rw [ln]; exact jN)
      have f0 := J0.out.free j
      rw [ho] at c0 w1
      have JP := hid (J0.out.put j ((o : Int) + (x.toNat : Int) * 256 ^ r))
      rw [← w1] at JP
      have j0i : (0 : Int) ≤ (j : Int) := by omega
      have k0i : (0 : Int) ≤ (k : Int) := by omega
      clear w2 w3' WS WL ln kl hx GX
      have jw : IntKind.i64.wrap (j : Int) = (j : Int) := by rw [IntKind.wrap_i64]; omega
      have sg : wr.heap.size ≤ wr.drew.heap.size := Nat.le_refl _
      have JB : Hid (∀ v, Below g w3 (wr.drew.setCell ⟨g, j, none⟩ v)) := fun v => (J.out.2.trans (U0.out.mono (J.out.1.lt |> Nat.le_of_lt))).setCell (p := ⟨g, j, none⟩) (Nat.le_refl _) v
      clear J U0 J0 ho
      rcases cs with rfl | rfl | rfl | rfl | rfl | rfl | rfl | rfl
      · have mw : IntKind.i64.wrap 0 = 0 := by rw [IntKind.wrap_i64]; omega
        have kr : (k : Int).tmod 8 = 0 := by rw [Int.tmod_eq_emod_of_nonneg (by omega)]; omega
        have xw0 : IntKind.u64.wrap (x.toNat : Int) = (x.toNat : Int) := by rw [IntKind.wrap_u64]; omega
        have xw : IntKind.u64.wrap ((x.toNat : Int)) = (x.toNat : Int) := by rw [IntKind.wrap_u64]; omega
        have OX : bits .or .u64 (o : Int) ((x.toNat : Int)) = (o : Int) + (x.toNat : Int) := by
          have e1 : ((x.toNat * 256 ^ 0 : Nat) : Int) = (x.toNat : Int) := by rw [show (256 : Nat) ^ 0 = 1 from rfl]; omega
          have e2 : ((o + x.toNat * 256 ^ 0 : Nat) : Int) = (o : Int) + (x.toNat : Int) := by rw [show (256 : Nat) ^ 0 = 1 from rfl]; omega
          rw [e1, e2] at OR; exact OR
        have F2 : Hid (Cd.UB (wr.drew.setCell ⟨g, j, none⟩ (.int .u64 ((o : Int) + (x.toNat : Int)))) g (V (k + 1)) ∧ Below g w3 (wr.drew.setCell ⟨g, j, none⟩ (.int .u64 ((o : Int) + (x.toNat : Int))))) := by
          have q := JP.out
          rw [show (o : Int) + (x.toNat : Int) * 256 ^ 0 = (o : Int) + (x.toNat : Int) by rw [show (256 : Int) ^ 0 = 1 from rfl]; omega] at q
          exact ⟨q, JB.out _⟩
        clear hr hjr OR JP JB w1 sg xl xw
        go_upto_region 6 with fail
        refine wp_region_any (by kernel_rfl) ?_
        change wpAny _ _ _ _ _ _ _ (World.drew _)
        refine wpAny_take (i := 0) (oi := { dst := some 23, op := Go.Op.move (Go.Operand.tmp 4), type := 28, pos := "read.go:85", after := #[], guard := none }) (v := ?_) rfl (by kernel_rfl) (by kernel_rfl) (by kernel_rfl) (fun _ _ _ h => h) (Or.inl ⟨by rfl, ?_⟩) ?_
        rotate_left
        · (intro w; go_simp; try with_reducible rfl)
        (try simp only [Act.put]); (try simp only [List.setIfInBounds_toArray]); (try simp only [List.set_cons_succ]); (try simp only [List.set_cons_zero])
        refine wpAny_take (i := 1) (oi := { dst := some 24, op := Go.Op.move (Go.Operand.tmp 5), type := 3, pos := "read.go:85", after := #[], guard := none }) (v := ?_) rfl (by kernel_rfl) (by kernel_rfl) (by kernel_rfl) (fun _ _ _ h => h) (Or.inl ⟨by rfl, ?_⟩) ?_
        rotate_left
        · (intro w; go_simp; try with_reducible rfl)
        (try simp only [Act.put]); (try simp only [List.setIfInBounds_toArray]); (try simp only [List.set_cons_succ]); (try simp only [List.set_cons_zero])
        refine wpAny_take (i := 2) (oi := { dst := some 25, op := Go.Op.binOp Go.BinOp.quo 3 (Go.Operand.tmp 24) (Go.Operand.const (Go.Value.int Go.IntKind.i64 8)) 3, type := 3, pos := "read.go:85", after := #[{ on := 1, ground := Go.Ground.data }], guard := none }) (v := ?_) rfl (by kernel_rfl) (by kernel_rfl) (by kernel_rfl) (fun _ _ _ h => h) (Or.inl ⟨by rfl, ?_⟩) ?_
        rotate_left
        · (intro w; go_simp; try with_reducible rfl)
        (try simp only [Act.put]); (try simp only [List.setIfInBounds_toArray]); (try simp only [List.set_cons_succ]); (try simp only [List.set_cons_zero])
        refine wpAny_take (i := 3) (oi := { dst := some 26, op := Go.Op.indexAddr 28 (Go.Operand.tmp 23) (Go.Operand.tmp 25), type := 0, pos := "read.go:85", after := #[{ on := 0, ground := Go.Ground.data }, { on := 2, ground := Go.Ground.data }], guard := none }) (v := ?_) rfl (by kernel_rfl) (by kernel_rfl) (by kernel_rfl) (fun _ _ _ h => h) (Or.inl ⟨by rfl, ?_⟩) ?_
        rotate_left
        · (intro w; go_simp; try with_reducible rfl)
        (try simp only [Act.put]); (try simp only [List.setIfInBounds_toArray]); (try simp only [List.set_cons_succ]); (try simp only [List.set_cons_zero])
        refine wpAny_take (i := 5) (oi := { dst := some 28, op := Go.Op.move (Go.Operand.tmp 6), type := 5, pos := "read.go:85", after := #[], guard := none }) (v := ?_) rfl (by kernel_rfl) (by kernel_rfl) (by kernel_rfl) (fun _ _ _ h => h) (Or.inl ⟨by rfl, ?_⟩) ?_
        rotate_left
        · (intro w; go_simp; try with_reducible rfl)
        (try simp only [Act.put]); (try simp only [List.setIfInBounds_toArray]); (try simp only [List.set_cons_succ]); (try simp only [List.set_cons_zero])
        refine wpAny_take (i := 6) (oi := { dst := some 29, op := Go.Op.convert 5 51 (Go.Operand.tmp 28), type := 51, pos := "read.go:85", after := #[{ on := 5, ground := Go.Ground.data }], guard := none }) (v := ?_) rfl (by kernel_rfl) (by kernel_rfl) (by kernel_rfl) (fun _ _ _ h => h) (Or.inl ⟨by rfl, ?_⟩) ?_
        rotate_left
        · (intro w; go_simp; try with_reducible rfl)
        (try simp only [Act.put]); (try simp only [List.setIfInBounds_toArray]); (try simp only [List.set_cons_succ]); (try simp only [List.set_cons_zero])
        refine wpAny_take (i := 7) (oi := { dst := some 30, op := Go.Op.move (Go.Operand.tmp 5), type := 3, pos := "read.go:85", after := #[], guard := none }) (v := ?_) rfl (by kernel_rfl) (by kernel_rfl) (by kernel_rfl) (fun _ _ _ h => h) (Or.inl ⟨by rfl, ?_⟩) ?_
        rotate_left
        · (intro w; go_simp; try with_reducible rfl)
        (try simp only [Act.put]); (try simp only [List.setIfInBounds_toArray]); (try simp only [List.set_cons_succ]); (try simp only [List.set_cons_zero])
        refine wpAny_take (i := 8) (oi := { dst := some 31, op := Go.Op.binOp Go.BinOp.rem 3 (Go.Operand.tmp 30) (Go.Operand.const (Go.Value.int Go.IntKind.i64 8)) 3, type := 3, pos := "read.go:85", after := #[{ on := 7, ground := Go.Ground.data }], guard := none }) (v := ?_) rfl (by kernel_rfl) (by kernel_rfl) (by kernel_rfl) (fun _ _ _ h => h) (Or.inl ⟨by rfl, ?_⟩) ?_
        rotate_left
        · (intro w; go_simp; try with_reducible rfl)
        (try simp only [Act.put]); (try simp only [List.setIfInBounds_toArray]); (try simp only [List.set_cons_succ]); (try simp only [List.set_cons_zero])
        refine wpAny_take (i := 9) (oi := { dst := some 32, op := Go.Op.binOp Go.BinOp.mul 3 (Go.Operand.tmp 31) (Go.Operand.const (Go.Value.int Go.IntKind.i64 8)) 3, type := 3, pos := "read.go:85", after := #[{ on := 8, ground := Go.Ground.data }], guard := none }) (v := ?_) rfl (by kernel_rfl) (by kernel_rfl) (by kernel_rfl) (fun _ _ _ h => h) (Or.inl ⟨by rfl, ?_⟩) ?_
        rotate_left
        · (intro w; go_simp; try with_reducible rfl)
        (try simp only [Act.put]); (try simp only [List.setIfInBounds_toArray]); (try simp only [List.set_cons_succ]); (try simp only [List.set_cons_zero])
        refine wpAny_take (i := 10) (oi := { dst := some 33, op := Go.Op.binOp Go.BinOp.shl 51 (Go.Operand.tmp 29) (Go.Operand.tmp 32) 3, type := 51, pos := "read.go:85", after := #[{ on := 6, ground := Go.Ground.data }, { on := 9, ground := Go.Ground.data }], guard := none }) (v := ?_) rfl (by kernel_rfl) (by kernel_rfl) (by kernel_rfl) (fun _ _ _ h => h) (Or.inl ⟨by rfl, ?_⟩) ?_
        rotate_left
        · (intro w; go_simp; try with_reducible rfl)
        (try simp only [Act.put]); (try simp only [List.setIfInBounds_toArray]); (try simp only [List.set_cons_succ]); (try simp only [List.set_cons_zero])
        refine wpAny_ready (rs := [4]) (by kernel_rfl) (by simp) ?_
        refine AllReady.cons (o := { dst := some 27, op := Go.Op.load 51 (Go.Operand.tmp 26), type := 51, pos := "read.go:85", after := #[{ on := 3, ground := Go.Ground.data }], guard := none }) rfl (fun K hK => ?_) (AllReady.nil)
        · go_simp
          refine hK _ _ ?_
          clear hK K
          (try simp only [Act.put]); (try simp only [List.setIfInBounds_toArray]); (try simp only [List.set_cons_succ]); (try simp only [List.set_cons_zero])
          refine wpAny_take (i := 11) (oi := { dst := some 34, op := Go.Op.binOp Go.BinOp.or 51 (Go.Operand.tmp 27) (Go.Operand.tmp 33) 51, type := 51, pos := "read.go:85", after := #[{ on := 4, ground := Go.Ground.data }, { on := 10, ground := Go.Ground.data }], guard := none }) (v := ?_) rfl (by kernel_rfl) (by kernel_rfl) (by kernel_rfl) (fun _ _ _ h => h) (Or.inl ⟨by rfl, ?_⟩) ?_
          rotate_left
          · (intro w; go_simp; try with_reducible rfl)
          (try simp only [Act.put]); (try simp only [List.setIfInBounds_toArray]); (try simp only [List.set_cons_succ]); (try simp only [List.set_cons_zero])
          refine wpAny_take (i := 12) (oi := { dst := some 35, op := Go.Op.indexAddr 28 (Go.Operand.tmp 23) (Go.Operand.tmp 25), type := 0, pos := "read.go:85", after := #[{ on := 0, ground := Go.Ground.data }, { on := 2, ground := Go.Ground.data }, { on := 0, ground := Go.Ground.phase }, { on := 1, ground := Go.Ground.phase }, { on := 2, ground := Go.Ground.phase }, { on := 3, ground := Go.Ground.phase }, { on := 4, ground := Go.Ground.phase }, { on := 5, ground := Go.Ground.phase }, { on := 6, ground := Go.Ground.phase }, { on := 7, ground := Go.Ground.phase }, { on := 8, ground := Go.Ground.phase }, { on := 9, ground := Go.Ground.phase }, { on := 10, ground := Go.Ground.phase }, { on := 11, ground := Go.Ground.phase }], guard := none }) (v := ?_) rfl (by kernel_rfl) (by kernel_rfl) (by kernel_rfl) (fun _ _ _ h => h) (Or.inl ⟨by rfl, ?_⟩) ?_
          rotate_left
          · (intro w; go_simp; try with_reducible rfl)
          (try simp only [Act.put]); (try simp only [List.setIfInBounds_toArray]); (try simp only [List.set_cons_succ]); (try simp only [List.set_cons_zero])
          refine wpAny_ready (rs := [13]) (by kernel_rfl) (by simp) ?_
          refine AllReady.cons (o := { dst := none, op := Go.Op.store 51 (Go.Operand.tmp 35) (Go.Operand.tmp 34), type := 0, pos := "read.go:85", after := #[{ on := 12, ground := Go.Ground.data }, { on := 11, ground := Go.Ground.data }, { on := 0, ground := Go.Ground.phase }, { on := 1, ground := Go.Ground.phase }, { on := 2, ground := Go.Ground.phase }, { on := 3, ground := Go.Ground.phase }, { on := 4, ground := Go.Ground.phase }, { on := 5, ground := Go.Ground.phase }, { on := 6, ground := Go.Ground.phase }, { on := 7, ground := Go.Ground.phase }, { on := 8, ground := Go.Ground.phase }, { on := 9, ground := Go.Ground.phase }, { on := 10, ground := Go.Ground.phase }, { on := 11, ground := Go.Ground.phase }], guard := none }) rfl (fun K hK => ?_) (AllReady.nil)
          · go_simp
            refine hK _ _ ?_
            clear hK K
            (try simp only [Act.put]); (try simp only [List.setIfInBounds_toArray]); (try simp only [List.set_cons_succ]); (try simp only [List.set_cons_zero])
            refine wpAny_done (by kernel_rfl) ?_ _
            go_wp2_with fail
            go_roundg (8 * N - (k + 1))
            case measure => omega
            case rel => exact ⟨k + 1, by omega, by go_num, F2⟩
      · have mw : IntKind.i64.wrap 8 = 8 := by rw [IntKind.wrap_i64]; omega
        have kr : (k : Int).tmod 8 = 1 := by rw [Int.tmod_eq_emod_of_nonneg (by omega)]; omega
        have xw0 : IntKind.u64.wrap (x.toNat : Int) = (x.toNat : Int) := by rw [IntKind.wrap_u64]; omega
        have xw : IntKind.u64.wrap ((x.toNat : Int) * 256) = (x.toNat : Int) * 256 := by rw [IntKind.wrap_u64]; omega
        have OX : bits .or .u64 (o : Int) ((x.toNat : Int) * 256) = (o : Int) + (x.toNat : Int) * 256 := by
          have e1 : ((x.toNat * 256 ^ 1 : Nat) : Int) = (x.toNat : Int) * 256 := by rw [show (256 : Nat) ^ 1 = 256 from rfl]; omega
          have e2 : ((o + x.toNat * 256 ^ 1 : Nat) : Int) = (o : Int) + (x.toNat : Int) * 256 := by rw [show (256 : Nat) ^ 1 = 256 from rfl]; omega
          rw [e1, e2] at OR; exact OR
        have F2 : Hid (Cd.UB (wr.drew.setCell ⟨g, j, none⟩ (.int .u64 ((o : Int) + (x.toNat : Int) * 256))) g (V (k + 1)) ∧ Below g w3 (wr.drew.setCell ⟨g, j, none⟩ (.int .u64 ((o : Int) + (x.toNat : Int) * 256)))) := by
          have q := JP.out
          rw [show (o : Int) + (x.toNat : Int) * 256 ^ 1 = (o : Int) + (x.toNat : Int) * 256 by rw [show (256 : Int) ^ 1 = 256 from rfl]] at q
          exact ⟨q, JB.out _⟩
        clear hr hjr OR JP JB w1 sg xl
        go_upto_region 6 with fail
        refine wp_region_any (by kernel_rfl) ?_
        change wpAny _ _ _ _ _ _ _ (World.drew _)
        refine wpAny_take (i := 0) (oi := { dst := some 23, op := Go.Op.move (Go.Operand.tmp 4), type := 28, pos := "read.go:85", after := #[], guard := none }) (v := ?_) rfl (by kernel_rfl) (by kernel_rfl) (by kernel_rfl) (fun _ _ _ h => h) (Or.inl ⟨by rfl, ?_⟩) ?_
        rotate_left
        · (intro w; go_simp; try with_reducible rfl)
        (try simp only [Act.put]); (try simp only [List.setIfInBounds_toArray]); (try simp only [List.set_cons_succ]); (try simp only [List.set_cons_zero])
        refine wpAny_take (i := 1) (oi := { dst := some 24, op := Go.Op.move (Go.Operand.tmp 5), type := 3, pos := "read.go:85", after := #[], guard := none }) (v := ?_) rfl (by kernel_rfl) (by kernel_rfl) (by kernel_rfl) (fun _ _ _ h => h) (Or.inl ⟨by rfl, ?_⟩) ?_
        rotate_left
        · (intro w; go_simp; try with_reducible rfl)
        (try simp only [Act.put]); (try simp only [List.setIfInBounds_toArray]); (try simp only [List.set_cons_succ]); (try simp only [List.set_cons_zero])
        refine wpAny_take (i := 2) (oi := { dst := some 25, op := Go.Op.binOp Go.BinOp.quo 3 (Go.Operand.tmp 24) (Go.Operand.const (Go.Value.int Go.IntKind.i64 8)) 3, type := 3, pos := "read.go:85", after := #[{ on := 1, ground := Go.Ground.data }], guard := none }) (v := ?_) rfl (by kernel_rfl) (by kernel_rfl) (by kernel_rfl) (fun _ _ _ h => h) (Or.inl ⟨by rfl, ?_⟩) ?_
        rotate_left
        · (intro w; go_simp; try with_reducible rfl)
        (try simp only [Act.put]); (try simp only [List.setIfInBounds_toArray]); (try simp only [List.set_cons_succ]); (try simp only [List.set_cons_zero])
        refine wpAny_take (i := 3) (oi := { dst := some 26, op := Go.Op.indexAddr 28 (Go.Operand.tmp 23) (Go.Operand.tmp 25), type := 0, pos := "read.go:85", after := #[{ on := 0, ground := Go.Ground.data }, { on := 2, ground := Go.Ground.data }], guard := none }) (v := ?_) rfl (by kernel_rfl) (by kernel_rfl) (by kernel_rfl) (fun _ _ _ h => h) (Or.inl ⟨by rfl, ?_⟩) ?_
        rotate_left
        · (intro w; go_simp; try with_reducible rfl)
        (try simp only [Act.put]); (try simp only [List.setIfInBounds_toArray]); (try simp only [List.set_cons_succ]); (try simp only [List.set_cons_zero])
        refine wpAny_take (i := 5) (oi := { dst := some 28, op := Go.Op.move (Go.Operand.tmp 6), type := 5, pos := "read.go:85", after := #[], guard := none }) (v := ?_) rfl (by kernel_rfl) (by kernel_rfl) (by kernel_rfl) (fun _ _ _ h => h) (Or.inl ⟨by rfl, ?_⟩) ?_
        rotate_left
        · (intro w; go_simp; try with_reducible rfl)
        (try simp only [Act.put]); (try simp only [List.setIfInBounds_toArray]); (try simp only [List.set_cons_succ]); (try simp only [List.set_cons_zero])
        refine wpAny_take (i := 6) (oi := { dst := some 29, op := Go.Op.convert 5 51 (Go.Operand.tmp 28), type := 51, pos := "read.go:85", after := #[{ on := 5, ground := Go.Ground.data }], guard := none }) (v := ?_) rfl (by kernel_rfl) (by kernel_rfl) (by kernel_rfl) (fun _ _ _ h => h) (Or.inl ⟨by rfl, ?_⟩) ?_
        rotate_left
        · (intro w; go_simp; try with_reducible rfl)
        (try simp only [Act.put]); (try simp only [List.setIfInBounds_toArray]); (try simp only [List.set_cons_succ]); (try simp only [List.set_cons_zero])
        refine wpAny_take (i := 7) (oi := { dst := some 30, op := Go.Op.move (Go.Operand.tmp 5), type := 3, pos := "read.go:85", after := #[], guard := none }) (v := ?_) rfl (by kernel_rfl) (by kernel_rfl) (by kernel_rfl) (fun _ _ _ h => h) (Or.inl ⟨by rfl, ?_⟩) ?_
        rotate_left
        · (intro w; go_simp; try with_reducible rfl)
        (try simp only [Act.put]); (try simp only [List.setIfInBounds_toArray]); (try simp only [List.set_cons_succ]); (try simp only [List.set_cons_zero])
        refine wpAny_take (i := 8) (oi := { dst := some 31, op := Go.Op.binOp Go.BinOp.rem 3 (Go.Operand.tmp 30) (Go.Operand.const (Go.Value.int Go.IntKind.i64 8)) 3, type := 3, pos := "read.go:85", after := #[{ on := 7, ground := Go.Ground.data }], guard := none }) (v := ?_) rfl (by kernel_rfl) (by kernel_rfl) (by kernel_rfl) (fun _ _ _ h => h) (Or.inl ⟨by rfl, ?_⟩) ?_
        rotate_left
        · (intro w; go_simp; try with_reducible rfl)
        (try simp only [Act.put]); (try simp only [List.setIfInBounds_toArray]); (try simp only [List.set_cons_succ]); (try simp only [List.set_cons_zero])
        refine wpAny_take (i := 9) (oi := { dst := some 32, op := Go.Op.binOp Go.BinOp.mul 3 (Go.Operand.tmp 31) (Go.Operand.const (Go.Value.int Go.IntKind.i64 8)) 3, type := 3, pos := "read.go:85", after := #[{ on := 8, ground := Go.Ground.data }], guard := none }) (v := ?_) rfl (by kernel_rfl) (by kernel_rfl) (by kernel_rfl) (fun _ _ _ h => h) (Or.inl ⟨by rfl, ?_⟩) ?_
        rotate_left
        · (intro w; go_simp; try with_reducible rfl)
        (try simp only [Act.put]); (try simp only [List.setIfInBounds_toArray]); (try simp only [List.set_cons_succ]); (try simp only [List.set_cons_zero])
        refine wpAny_take (i := 10) (oi := { dst := some 33, op := Go.Op.binOp Go.BinOp.shl 51 (Go.Operand.tmp 29) (Go.Operand.tmp 32) 3, type := 51, pos := "read.go:85", after := #[{ on := 6, ground := Go.Ground.data }, { on := 9, ground := Go.Ground.data }], guard := none }) (v := ?_) rfl (by kernel_rfl) (by kernel_rfl) (by kernel_rfl) (fun _ _ _ h => h) (Or.inl ⟨by rfl, ?_⟩) ?_
        rotate_left
        · (intro w; go_simp; try with_reducible rfl)
        (try simp only [Act.put]); (try simp only [List.setIfInBounds_toArray]); (try simp only [List.set_cons_succ]); (try simp only [List.set_cons_zero])
        refine wpAny_ready (rs := [4]) (by kernel_rfl) (by simp) ?_
        refine AllReady.cons (o := { dst := some 27, op := Go.Op.load 51 (Go.Operand.tmp 26), type := 51, pos := "read.go:85", after := #[{ on := 3, ground := Go.Ground.data }], guard := none }) rfl (fun K hK => ?_) (AllReady.nil)
        · go_simp
          refine hK _ _ ?_
          clear hK K
          (try simp only [Act.put]); (try simp only [List.setIfInBounds_toArray]); (try simp only [List.set_cons_succ]); (try simp only [List.set_cons_zero])
          refine wpAny_take (i := 11) (oi := { dst := some 34, op := Go.Op.binOp Go.BinOp.or 51 (Go.Operand.tmp 27) (Go.Operand.tmp 33) 51, type := 51, pos := "read.go:85", after := #[{ on := 4, ground := Go.Ground.data }, { on := 10, ground := Go.Ground.data }], guard := none }) (v := ?_) rfl (by kernel_rfl) (by kernel_rfl) (by kernel_rfl) (fun _ _ _ h => h) (Or.inl ⟨by rfl, ?_⟩) ?_
          rotate_left
          · (intro w; go_simp; try with_reducible rfl)
          (try simp only [Act.put]); (try simp only [List.setIfInBounds_toArray]); (try simp only [List.set_cons_succ]); (try simp only [List.set_cons_zero])
          refine wpAny_take (i := 12) (oi := { dst := some 35, op := Go.Op.indexAddr 28 (Go.Operand.tmp 23) (Go.Operand.tmp 25), type := 0, pos := "read.go:85", after := #[{ on := 0, ground := Go.Ground.data }, { on := 2, ground := Go.Ground.data }, { on := 0, ground := Go.Ground.phase }, { on := 1, ground := Go.Ground.phase }, { on := 2, ground := Go.Ground.phase }, { on := 3, ground := Go.Ground.phase }, { on := 4, ground := Go.Ground.phase }, { on := 5, ground := Go.Ground.phase }, { on := 6, ground := Go.Ground.phase }, { on := 7, ground := Go.Ground.phase }, { on := 8, ground := Go.Ground.phase }, { on := 9, ground := Go.Ground.phase }, { on := 10, ground := Go.Ground.phase }, { on := 11, ground := Go.Ground.phase }], guard := none }) (v := ?_) rfl (by kernel_rfl) (by kernel_rfl) (by kernel_rfl) (fun _ _ _ h => h) (Or.inl ⟨by rfl, ?_⟩) ?_
          rotate_left
          · (intro w; go_simp; try with_reducible rfl)
          (try simp only [Act.put]); (try simp only [List.setIfInBounds_toArray]); (try simp only [List.set_cons_succ]); (try simp only [List.set_cons_zero])
          refine wpAny_ready (rs := [13]) (by kernel_rfl) (by simp) ?_
          refine AllReady.cons (o := { dst := none, op := Go.Op.store 51 (Go.Operand.tmp 35) (Go.Operand.tmp 34), type := 0, pos := "read.go:85", after := #[{ on := 12, ground := Go.Ground.data }, { on := 11, ground := Go.Ground.data }, { on := 0, ground := Go.Ground.phase }, { on := 1, ground := Go.Ground.phase }, { on := 2, ground := Go.Ground.phase }, { on := 3, ground := Go.Ground.phase }, { on := 4, ground := Go.Ground.phase }, { on := 5, ground := Go.Ground.phase }, { on := 6, ground := Go.Ground.phase }, { on := 7, ground := Go.Ground.phase }, { on := 8, ground := Go.Ground.phase }, { on := 9, ground := Go.Ground.phase }, { on := 10, ground := Go.Ground.phase }, { on := 11, ground := Go.Ground.phase }], guard := none }) rfl (fun K hK => ?_) (AllReady.nil)
          · go_simp
            refine hK _ _ ?_
            clear hK K
            (try simp only [Act.put]); (try simp only [List.setIfInBounds_toArray]); (try simp only [List.set_cons_succ]); (try simp only [List.set_cons_zero])
            refine wpAny_done (by kernel_rfl) ?_ _
            go_wp2_with fail
            go_roundg (8 * N - (k + 1))
            case measure => omega
            case rel => exact ⟨k + 1, by omega, by go_num, F2⟩
      · have mw : IntKind.i64.wrap 16 = 16 := by rw [IntKind.wrap_i64]; omega
        have kr : (k : Int).tmod 8 = 2 := by rw [Int.tmod_eq_emod_of_nonneg (by omega)]; omega
        have xw0 : IntKind.u64.wrap (x.toNat : Int) = (x.toNat : Int) := by rw [IntKind.wrap_u64]; omega
        have xw : IntKind.u64.wrap ((x.toNat : Int) * 65536) = (x.toNat : Int) * 65536 := by rw [IntKind.wrap_u64]; omega
        have OX : bits .or .u64 (o : Int) ((x.toNat : Int) * 65536) = (o : Int) + (x.toNat : Int) * 65536 := by
          have e1 : ((x.toNat * 256 ^ 2 : Nat) : Int) = (x.toNat : Int) * 65536 := by rw [show (256 : Nat) ^ 2 = 65536 from rfl]; omega
          have e2 : ((o + x.toNat * 256 ^ 2 : Nat) : Int) = (o : Int) + (x.toNat : Int) * 65536 := by rw [show (256 : Nat) ^ 2 = 65536 from rfl]; omega
          rw [e1, e2] at OR; exact OR
        have F2 : Hid (Cd.UB (wr.drew.setCell ⟨g, j, none⟩ (.int .u64 ((o : Int) + (x.toNat : Int) * 65536))) g (V (k + 1)) ∧ Below g w3 (wr.drew.setCell ⟨g, j, none⟩ (.int .u64 ((o : Int) + (x.toNat : Int) * 65536)))) := by
          have q := JP.out
          rw [show (o : Int) + (x.toNat : Int) * 256 ^ 2 = (o : Int) + (x.toNat : Int) * 65536 by rw [show (256 : Int) ^ 2 = 65536 from rfl]] at q
          exact ⟨q, JB.out _⟩
        clear hr hjr OR JP JB w1 sg xl
        go_upto_region 6 with fail
        refine wp_region_any (by kernel_rfl) ?_
        change wpAny _ _ _ _ _ _ _ (World.drew _)
        refine wpAny_take (i := 0) (oi := { dst := some 23, op := Go.Op.move (Go.Operand.tmp 4), type := 28, pos := "read.go:85", after := #[], guard := none }) (v := ?_) rfl (by kernel_rfl) (by kernel_rfl) (by kernel_rfl) (fun _ _ _ h => h) (Or.inl ⟨by rfl, ?_⟩) ?_
        rotate_left
        · (intro w; go_simp; try with_reducible rfl)
        (try simp only [Act.put]); (try simp only [List.setIfInBounds_toArray]); (try simp only [List.set_cons_succ]); (try simp only [List.set_cons_zero])
        refine wpAny_take (i := 1) (oi := { dst := some 24, op := Go.Op.move (Go.Operand.tmp 5), type := 3, pos := "read.go:85", after := #[], guard := none }) (v := ?_) rfl (by kernel_rfl) (by kernel_rfl) (by kernel_rfl) (fun _ _ _ h => h) (Or.inl ⟨by rfl, ?_⟩) ?_
        rotate_left
        · (intro w; go_simp; try with_reducible rfl)
        (try simp only [Act.put]); (try simp only [List.setIfInBounds_toArray]); (try simp only [List.set_cons_succ]); (try simp only [List.set_cons_zero])
        refine wpAny_take (i := 2) (oi := { dst := some 25, op := Go.Op.binOp Go.BinOp.quo 3 (Go.Operand.tmp 24) (Go.Operand.const (Go.Value.int Go.IntKind.i64 8)) 3, type := 3, pos := "read.go:85", after := #[{ on := 1, ground := Go.Ground.data }], guard := none }) (v := ?_) rfl (by kernel_rfl) (by kernel_rfl) (by kernel_rfl) (fun _ _ _ h => h) (Or.inl ⟨by rfl, ?_⟩) ?_
        rotate_left
        · (intro w; go_simp; try with_reducible rfl)
        (try simp only [Act.put]); (try simp only [List.setIfInBounds_toArray]); (try simp only [List.set_cons_succ]); (try simp only [List.set_cons_zero])
        refine wpAny_take (i := 3) (oi := { dst := some 26, op := Go.Op.indexAddr 28 (Go.Operand.tmp 23) (Go.Operand.tmp 25), type := 0, pos := "read.go:85", after := #[{ on := 0, ground := Go.Ground.data }, { on := 2, ground := Go.Ground.data }], guard := none }) (v := ?_) rfl (by kernel_rfl) (by kernel_rfl) (by kernel_rfl) (fun _ _ _ h => h) (Or.inl ⟨by rfl, ?_⟩) ?_
        rotate_left
        · (intro w; go_simp; try with_reducible rfl)
        (try simp only [Act.put]); (try simp only [List.setIfInBounds_toArray]); (try simp only [List.set_cons_succ]); (try simp only [List.set_cons_zero])
        refine wpAny_take (i := 5) (oi := { dst := some 28, op := Go.Op.move (Go.Operand.tmp 6), type := 5, pos := "read.go:85", after := #[], guard := none }) (v := ?_) rfl (by kernel_rfl) (by kernel_rfl) (by kernel_rfl) (fun _ _ _ h => h) (Or.inl ⟨by rfl, ?_⟩) ?_
        rotate_left
        · (intro w; go_simp; try with_reducible rfl)
        (try simp only [Act.put]); (try simp only [List.setIfInBounds_toArray]); (try simp only [List.set_cons_succ]); (try simp only [List.set_cons_zero])
        refine wpAny_take (i := 6) (oi := { dst := some 29, op := Go.Op.convert 5 51 (Go.Operand.tmp 28), type := 51, pos := "read.go:85", after := #[{ on := 5, ground := Go.Ground.data }], guard := none }) (v := ?_) rfl (by kernel_rfl) (by kernel_rfl) (by kernel_rfl) (fun _ _ _ h => h) (Or.inl ⟨by rfl, ?_⟩) ?_
        rotate_left
        · (intro w; go_simp; try with_reducible rfl)
        (try simp only [Act.put]); (try simp only [List.setIfInBounds_toArray]); (try simp only [List.set_cons_succ]); (try simp only [List.set_cons_zero])
        refine wpAny_take (i := 7) (oi := { dst := some 30, op := Go.Op.move (Go.Operand.tmp 5), type := 3, pos := "read.go:85", after := #[], guard := none }) (v := ?_) rfl (by kernel_rfl) (by kernel_rfl) (by kernel_rfl) (fun _ _ _ h => h) (Or.inl ⟨by rfl, ?_⟩) ?_
        rotate_left
        · (intro w; go_simp; try with_reducible rfl)
        (try simp only [Act.put]); (try simp only [List.setIfInBounds_toArray]); (try simp only [List.set_cons_succ]); (try simp only [List.set_cons_zero])
        refine wpAny_take (i := 8) (oi := { dst := some 31, op := Go.Op.binOp Go.BinOp.rem 3 (Go.Operand.tmp 30) (Go.Operand.const (Go.Value.int Go.IntKind.i64 8)) 3, type := 3, pos := "read.go:85", after := #[{ on := 7, ground := Go.Ground.data }], guard := none }) (v := ?_) rfl (by kernel_rfl) (by kernel_rfl) (by kernel_rfl) (fun _ _ _ h => h) (Or.inl ⟨by rfl, ?_⟩) ?_
        rotate_left
        · (intro w; go_simp; try with_reducible rfl)
        (try simp only [Act.put]); (try simp only [List.setIfInBounds_toArray]); (try simp only [List.set_cons_succ]); (try simp only [List.set_cons_zero])
        refine wpAny_take (i := 9) (oi := { dst := some 32, op := Go.Op.binOp Go.BinOp.mul 3 (Go.Operand.tmp 31) (Go.Operand.const (Go.Value.int Go.IntKind.i64 8)) 3, type := 3, pos := "read.go:85", after := #[{ on := 8, ground := Go.Ground.data }], guard := none }) (v := ?_) rfl (by kernel_rfl) (by kernel_rfl) (by kernel_rfl) (fun _ _ _ h => h) (Or.inl ⟨by rfl, ?_⟩) ?_
        rotate_left
        · (intro w; go_simp; try with_reducible rfl)
        (try simp only [Act.put]); (try simp only [List.setIfInBounds_toArray]); (try simp only [List.set_cons_succ]); (try simp only [List.set_cons_zero])
        refine wpAny_take (i := 10) (oi := { dst := some 33, op := Go.Op.binOp Go.BinOp.shl 51 (Go.Operand.tmp 29) (Go.Operand.tmp 32) 3, type := 51, pos := "read.go:85", after := #[{ on := 6, ground := Go.Ground.data }, { on := 9, ground := Go.Ground.data }], guard := none }) (v := ?_) rfl (by kernel_rfl) (by kernel_rfl) (by kernel_rfl) (fun _ _ _ h => h) (Or.inl ⟨by rfl, ?_⟩) ?_
        rotate_left
        · (intro w; go_simp; try with_reducible rfl)
        (try simp only [Act.put]); (try simp only [List.setIfInBounds_toArray]); (try simp only [List.set_cons_succ]); (try simp only [List.set_cons_zero])
        refine wpAny_ready (rs := [4]) (by kernel_rfl) (by simp) ?_
        refine AllReady.cons (o := { dst := some 27, op := Go.Op.load 51 (Go.Operand.tmp 26), type := 51, pos := "read.go:85", after := #[{ on := 3, ground := Go.Ground.data }], guard := none }) rfl (fun K hK => ?_) (AllReady.nil)
        · go_simp
          refine hK _ _ ?_
          clear hK K
          (try simp only [Act.put]); (try simp only [List.setIfInBounds_toArray]); (try simp only [List.set_cons_succ]); (try simp only [List.set_cons_zero])
          refine wpAny_take (i := 11) (oi := { dst := some 34, op := Go.Op.binOp Go.BinOp.or 51 (Go.Operand.tmp 27) (Go.Operand.tmp 33) 51, type := 51, pos := "read.go:85", after := #[{ on := 4, ground := Go.Ground.data }, { on := 10, ground := Go.Ground.data }], guard := none }) (v := ?_) rfl (by kernel_rfl) (by kernel_rfl) (by kernel_rfl) (fun _ _ _ h => h) (Or.inl ⟨by rfl, ?_⟩) ?_
          rotate_left
          · (intro w; go_simp; try with_reducible rfl)
          (try simp only [Act.put]); (try simp only [List.setIfInBounds_toArray]); (try simp only [List.set_cons_succ]); (try simp only [List.set_cons_zero])
          refine wpAny_take (i := 12) (oi := { dst := some 35, op := Go.Op.indexAddr 28 (Go.Operand.tmp 23) (Go.Operand.tmp 25), type := 0, pos := "read.go:85", after := #[{ on := 0, ground := Go.Ground.data }, { on := 2, ground := Go.Ground.data }, { on := 0, ground := Go.Ground.phase }, { on := 1, ground := Go.Ground.phase }, { on := 2, ground := Go.Ground.phase }, { on := 3, ground := Go.Ground.phase }, { on := 4, ground := Go.Ground.phase }, { on := 5, ground := Go.Ground.phase }, { on := 6, ground := Go.Ground.phase }, { on := 7, ground := Go.Ground.phase }, { on := 8, ground := Go.Ground.phase }, { on := 9, ground := Go.Ground.phase }, { on := 10, ground := Go.Ground.phase }, { on := 11, ground := Go.Ground.phase }], guard := none }) (v := ?_) rfl (by kernel_rfl) (by kernel_rfl) (by kernel_rfl) (fun _ _ _ h => h) (Or.inl ⟨by rfl, ?_⟩) ?_
          rotate_left
          · (intro w; go_simp; try with_reducible rfl)
          (try simp only [Act.put]); (try simp only [List.setIfInBounds_toArray]); (try simp only [List.set_cons_succ]); (try simp only [List.set_cons_zero])
          refine wpAny_ready (rs := [13]) (by kernel_rfl) (by simp) ?_
          refine AllReady.cons (o := { dst := none, op := Go.Op.store 51 (Go.Operand.tmp 35) (Go.Operand.tmp 34), type := 0, pos := "read.go:85", after := #[{ on := 12, ground := Go.Ground.data }, { on := 11, ground := Go.Ground.data }, { on := 0, ground := Go.Ground.phase }, { on := 1, ground := Go.Ground.phase }, { on := 2, ground := Go.Ground.phase }, { on := 3, ground := Go.Ground.phase }, { on := 4, ground := Go.Ground.phase }, { on := 5, ground := Go.Ground.phase }, { on := 6, ground := Go.Ground.phase }, { on := 7, ground := Go.Ground.phase }, { on := 8, ground := Go.Ground.phase }, { on := 9, ground := Go.Ground.phase }, { on := 10, ground := Go.Ground.phase }, { on := 11, ground := Go.Ground.phase }], guard := none }) rfl (fun K hK => ?_) (AllReady.nil)
          · go_simp
            refine hK _ _ ?_
            clear hK K
            (try simp only [Act.put]); (try simp only [List.setIfInBounds_toArray]); (try simp only [List.set_cons_succ]); (try simp only [List.set_cons_zero])
            refine wpAny_done (by kernel_rfl) ?_ _
            go_wp2_with fail
            go_roundg (8 * N - (k + 1))
            case measure => omega
            case rel => exact ⟨k + 1, by omega, by go_num, F2⟩
      · have mw : IntKind.i64.wrap 24 = 24 := by rw [IntKind.wrap_i64]; omega
        have kr : (k : Int).tmod 8 = 3 := by rw [Int.tmod_eq_emod_of_nonneg (by omega)]; omega
        have xw0 : IntKind.u64.wrap (x.toNat : Int) = (x.toNat : Int) := by rw [IntKind.wrap_u64]; omega
        have xw : IntKind.u64.wrap ((x.toNat : Int) * 16777216) = (x.toNat : Int) * 16777216 := by rw [IntKind.wrap_u64]; omega
        have OX : bits .or .u64 (o : Int) ((x.toNat : Int) * 16777216) = (o : Int) + (x.toNat : Int) * 16777216 := by
          have e1 : ((x.toNat * 256 ^ 3 : Nat) : Int) = (x.toNat : Int) * 16777216 := by rw [show (256 : Nat) ^ 3 = 16777216 from rfl]; omega
          have e2 : ((o + x.toNat * 256 ^ 3 : Nat) : Int) = (o : Int) + (x.toNat : Int) * 16777216 := by rw [show (256 : Nat) ^ 3 = 16777216 from rfl]; omega
          rw [e1, e2] at OR; exact OR
        have F2 : Hid (Cd.UB (wr.drew.setCell ⟨g, j, none⟩ (.int .u64 ((o : Int) + (x.toNat : Int) * 16777216))) g (V (k + 1)) ∧ Below g w3 (wr.drew.setCell ⟨g, j, none⟩ (.int .u64 ((o : Int) + (x.toNat : Int) * 16777216)))) := by
          have q := JP.out
          rw [show (o : Int) + (x.toNat : Int) * 256 ^ 3 = (o : Int) + (x.toNat : Int) * 16777216 by rw [show (256 : Int) ^ 3 = 16777216 from rfl]] at q
          exact ⟨q, JB.out _⟩
        clear hr hjr OR JP JB w1 sg xl
        go_upto_region 6 with fail
        refine wp_region_any (by kernel_rfl) ?_
        change wpAny _ _ _ _ _ _ _ (World.drew _)
        refine wpAny_take (i := 0) (oi := { dst := some 23, op := Go.Op.move (Go.Operand.tmp 4), type := 28, pos := "read.go:85", after := #[], guard := none }) (v := ?_) rfl (by kernel_rfl) (by kernel_rfl) (by kernel_rfl) (fun _ _ _ h => h) (Or.inl ⟨by rfl, ?_⟩) ?_
        rotate_left
        · (intro w; go_simp; try with_reducible rfl)
        (try simp only [Act.put]); (try simp only [List.setIfInBounds_toArray]); (try simp only [List.set_cons_succ]); (try simp only [List.set_cons_zero])
        refine wpAny_take (i := 1) (oi := { dst := some 24, op := Go.Op.move (Go.Operand.tmp 5), type := 3, pos := "read.go:85", after := #[], guard := none }) (v := ?_) rfl (by kernel_rfl) (by kernel_rfl) (by kernel_rfl) (fun _ _ _ h => h) (Or.inl ⟨by rfl, ?_⟩) ?_
        rotate_left
        · (intro w; go_simp; try with_reducible rfl)
        (try simp only [Act.put]); (try simp only [List.setIfInBounds_toArray]); (try simp only [List.set_cons_succ]); (try simp only [List.set_cons_zero])
        refine wpAny_take (i := 2) (oi := { dst := some 25, op := Go.Op.binOp Go.BinOp.quo 3 (Go.Operand.tmp 24) (Go.Operand.const (Go.Value.int Go.IntKind.i64 8)) 3, type := 3, pos := "read.go:85", after := #[{ on := 1, ground := Go.Ground.data }], guard := none }) (v := ?_) rfl (by kernel_rfl) (by kernel_rfl) (by kernel_rfl) (fun _ _ _ h => h) (Or.inl ⟨by rfl, ?_⟩) ?_
        rotate_left
        · (intro w; go_simp; try with_reducible rfl)
        (try simp only [Act.put]); (try simp only [List.setIfInBounds_toArray]); (try simp only [List.set_cons_succ]); (try simp only [List.set_cons_zero])
        refine wpAny_take (i := 3) (oi := { dst := some 26, op := Go.Op.indexAddr 28 (Go.Operand.tmp 23) (Go.Operand.tmp 25), type := 0, pos := "read.go:85", after := #[{ on := 0, ground := Go.Ground.data }, { on := 2, ground := Go.Ground.data }], guard := none }) (v := ?_) rfl (by kernel_rfl) (by kernel_rfl) (by kernel_rfl) (fun _ _ _ h => h) (Or.inl ⟨by rfl, ?_⟩) ?_
        rotate_left
        · (intro w; go_simp; try with_reducible rfl)
        (try simp only [Act.put]); (try simp only [List.setIfInBounds_toArray]); (try simp only [List.set_cons_succ]); (try simp only [List.set_cons_zero])
        refine wpAny_take (i := 5) (oi := { dst := some 28, op := Go.Op.move (Go.Operand.tmp 6), type := 5, pos := "read.go:85", after := #[], guard := none }) (v := ?_) rfl (by kernel_rfl) (by kernel_rfl) (by kernel_rfl) (fun _ _ _ h => h) (Or.inl ⟨by rfl, ?_⟩) ?_
        rotate_left
        · (intro w; go_simp; try with_reducible rfl)
        (try simp only [Act.put]); (try simp only [List.setIfInBounds_toArray]); (try simp only [List.set_cons_succ]); (try simp only [List.set_cons_zero])
        refine wpAny_take (i := 6) (oi := { dst := some 29, op := Go.Op.convert 5 51 (Go.Operand.tmp 28), type := 51, pos := "read.go:85", after := #[{ on := 5, ground := Go.Ground.data }], guard := none }) (v := ?_) rfl (by kernel_rfl) (by kernel_rfl) (by kernel_rfl) (fun _ _ _ h => h) (Or.inl ⟨by rfl, ?_⟩) ?_
        rotate_left
        · (intro w; go_simp; try with_reducible rfl)
        (try simp only [Act.put]); (try simp only [List.setIfInBounds_toArray]); (try simp only [List.set_cons_succ]); (try simp only [List.set_cons_zero])
        refine wpAny_take (i := 7) (oi := { dst := some 30, op := Go.Op.move (Go.Operand.tmp 5), type := 3, pos := "read.go:85", after := #[], guard := none }) (v := ?_) rfl (by kernel_rfl) (by kernel_rfl) (by kernel_rfl) (fun _ _ _ h => h) (Or.inl ⟨by rfl, ?_⟩) ?_
        rotate_left
        · (intro w; go_simp; try with_reducible rfl)
        (try simp only [Act.put]); (try simp only [List.setIfInBounds_toArray]); (try simp only [List.set_cons_succ]); (try simp only [List.set_cons_zero])
        refine wpAny_take (i := 8) (oi := { dst := some 31, op := Go.Op.binOp Go.BinOp.rem 3 (Go.Operand.tmp 30) (Go.Operand.const (Go.Value.int Go.IntKind.i64 8)) 3, type := 3, pos := "read.go:85", after := #[{ on := 7, ground := Go.Ground.data }], guard := none }) (v := ?_) rfl (by kernel_rfl) (by kernel_rfl) (by kernel_rfl) (fun _ _ _ h => h) (Or.inl ⟨by rfl, ?_⟩) ?_
        rotate_left
        · (intro w; go_simp; try with_reducible rfl)
        (try simp only [Act.put]); (try simp only [List.setIfInBounds_toArray]); (try simp only [List.set_cons_succ]); (try simp only [List.set_cons_zero])
        refine wpAny_take (i := 9) (oi := { dst := some 32, op := Go.Op.binOp Go.BinOp.mul 3 (Go.Operand.tmp 31) (Go.Operand.const (Go.Value.int Go.IntKind.i64 8)) 3, type := 3, pos := "read.go:85", after := #[{ on := 8, ground := Go.Ground.data }], guard := none }) (v := ?_) rfl (by kernel_rfl) (by kernel_rfl) (by kernel_rfl) (fun _ _ _ h => h) (Or.inl ⟨by rfl, ?_⟩) ?_
        rotate_left
        · (intro w; go_simp; try with_reducible rfl)
        (try simp only [Act.put]); (try simp only [List.setIfInBounds_toArray]); (try simp only [List.set_cons_succ]); (try simp only [List.set_cons_zero])
        refine wpAny_take (i := 10) (oi := { dst := some 33, op := Go.Op.binOp Go.BinOp.shl 51 (Go.Operand.tmp 29) (Go.Operand.tmp 32) 3, type := 51, pos := "read.go:85", after := #[{ on := 6, ground := Go.Ground.data }, { on := 9, ground := Go.Ground.data }], guard := none }) (v := ?_) rfl (by kernel_rfl) (by kernel_rfl) (by kernel_rfl) (fun _ _ _ h => h) (Or.inl ⟨by rfl, ?_⟩) ?_
        rotate_left
        · (intro w; go_simp; try with_reducible rfl)
        (try simp only [Act.put]); (try simp only [List.setIfInBounds_toArray]); (try simp only [List.set_cons_succ]); (try simp only [List.set_cons_zero])
        refine wpAny_ready (rs := [4]) (by kernel_rfl) (by simp) ?_
        refine AllReady.cons (o := { dst := some 27, op := Go.Op.load 51 (Go.Operand.tmp 26), type := 51, pos := "read.go:85", after := #[{ on := 3, ground := Go.Ground.data }], guard := none }) rfl (fun K hK => ?_) (AllReady.nil)
        · go_simp
          refine hK _ _ ?_
          clear hK K
          (try simp only [Act.put]); (try simp only [List.setIfInBounds_toArray]); (try simp only [List.set_cons_succ]); (try simp only [List.set_cons_zero])
          refine wpAny_take (i := 11) (oi := { dst := some 34, op := Go.Op.binOp Go.BinOp.or 51 (Go.Operand.tmp 27) (Go.Operand.tmp 33) 51, type := 51, pos := "read.go:85", after := #[{ on := 4, ground := Go.Ground.data }, { on := 10, ground := Go.Ground.data }], guard := none }) (v := ?_) rfl (by kernel_rfl) (by kernel_rfl) (by kernel_rfl) (fun _ _ _ h => h) (Or.inl ⟨by rfl, ?_⟩) ?_
          rotate_left
          · (intro w; go_simp; try with_reducible rfl)
          (try simp only [Act.put]); (try simp only [List.setIfInBounds_toArray]); (try simp only [List.set_cons_succ]); (try simp only [List.set_cons_zero])
          refine wpAny_take (i := 12) (oi := { dst := some 35, op := Go.Op.indexAddr 28 (Go.Operand.tmp 23) (Go.Operand.tmp 25), type := 0, pos := "read.go:85", after := #[{ on := 0, ground := Go.Ground.data }, { on := 2, ground := Go.Ground.data }, { on := 0, ground := Go.Ground.phase }, { on := 1, ground := Go.Ground.phase }, { on := 2, ground := Go.Ground.phase }, { on := 3, ground := Go.Ground.phase }, { on := 4, ground := Go.Ground.phase }, { on := 5, ground := Go.Ground.phase }, { on := 6, ground := Go.Ground.phase }, { on := 7, ground := Go.Ground.phase }, { on := 8, ground := Go.Ground.phase }, { on := 9, ground := Go.Ground.phase }, { on := 10, ground := Go.Ground.phase }, { on := 11, ground := Go.Ground.phase }], guard := none }) (v := ?_) rfl (by kernel_rfl) (by kernel_rfl) (by kernel_rfl) (fun _ _ _ h => h) (Or.inl ⟨by rfl, ?_⟩) ?_
          rotate_left
          · (intro w; go_simp; try with_reducible rfl)
          (try simp only [Act.put]); (try simp only [List.setIfInBounds_toArray]); (try simp only [List.set_cons_succ]); (try simp only [List.set_cons_zero])
          refine wpAny_ready (rs := [13]) (by kernel_rfl) (by simp) ?_
          refine AllReady.cons (o := { dst := none, op := Go.Op.store 51 (Go.Operand.tmp 35) (Go.Operand.tmp 34), type := 0, pos := "read.go:85", after := #[{ on := 12, ground := Go.Ground.data }, { on := 11, ground := Go.Ground.data }, { on := 0, ground := Go.Ground.phase }, { on := 1, ground := Go.Ground.phase }, { on := 2, ground := Go.Ground.phase }, { on := 3, ground := Go.Ground.phase }, { on := 4, ground := Go.Ground.phase }, { on := 5, ground := Go.Ground.phase }, { on := 6, ground := Go.Ground.phase }, { on := 7, ground := Go.Ground.phase }, { on := 8, ground := Go.Ground.phase }, { on := 9, ground := Go.Ground.phase }, { on := 10, ground := Go.Ground.phase }, { on := 11, ground := Go.Ground.phase }], guard := none }) rfl (fun K hK => ?_) (AllReady.nil)
          · go_simp
            refine hK _ _ ?_
            clear hK K
            (try simp only [Act.put]); (try simp only [List.setIfInBounds_toArray]); (try simp only [List.set_cons_succ]); (try simp only [List.set_cons_zero])
            refine wpAny_done (by kernel_rfl) ?_ _
            go_wp2_with fail
            go_roundg (8 * N - (k + 1))
            case measure => omega
            case rel => exact ⟨k + 1, by omega, by go_num, F2⟩
      · have mw : IntKind.i64.wrap 32 = 32 := by rw [IntKind.wrap_i64]; omega
        have kr : (k : Int).tmod 8 = 4 := by rw [Int.tmod_eq_emod_of_nonneg (by omega)]; omega
        have xw0 : IntKind.u64.wrap (x.toNat : Int) = (x.toNat : Int) := by rw [IntKind.wrap_u64]; omega
        have xw : IntKind.u64.wrap ((x.toNat : Int) * 4294967296) = (x.toNat : Int) * 4294967296 := by rw [IntKind.wrap_u64]; omega
        have OX : bits .or .u64 (o : Int) ((x.toNat : Int) * 4294967296) = (o : Int) + (x.toNat : Int) * 4294967296 := by
          have e1 : ((x.toNat * 256 ^ 4 : Nat) : Int) = (x.toNat : Int) * 4294967296 := by rw [show (256 : Nat) ^ 4 = 4294967296 from rfl]; omega
          have e2 : ((o + x.toNat * 256 ^ 4 : Nat) : Int) = (o : Int) + (x.toNat : Int) * 4294967296 := by rw [show (256 : Nat) ^ 4 = 4294967296 from rfl]; omega
          rw [e1, e2] at OR; exact OR
        have F2 : Hid (Cd.UB (wr.drew.setCell ⟨g, j, none⟩ (.int .u64 ((o : Int) + (x.toNat : Int) * 4294967296))) g (V (k + 1)) ∧ Below g w3 (wr.drew.setCell ⟨g, j, none⟩ (.int .u64 ((o : Int) + (x.toNat : Int) * 4294967296)))) := by
          have q := JP.out
          rw [show (o : Int) + (x.toNat : Int) * 256 ^ 4 = (o : Int) + (x.toNat : Int) * 4294967296 by rw [show (256 : Int) ^ 4 = 4294967296 from rfl]] at q
          exact ⟨q, JB.out _⟩
        clear hr hjr OR JP JB w1 sg xl
        go_upto_region 6 with fail
        refine wp_region_any (by kernel_rfl) ?_
        change wpAny _ _ _ _ _ _ _ (World.drew _)
        refine wpAny_take (i := 0) (oi := { dst := some 23, op := Go.Op.move (Go.Operand.tmp 4), type := 28, pos := "read.go:85", after := #[], guard := none }) (v := ?_) rfl (by kernel_rfl) (by kernel_rfl) (by kernel_rfl) (fun _ _ _ h => h) (Or.inl ⟨by rfl, ?_⟩) ?_
        rotate_left
        · (intro w; go_simp; try with_reducible rfl)
        (try simp only [Act.put]); (try simp only [List.setIfInBounds_toArray]); (try simp only [List.set_cons_succ]); (try simp only [List.set_cons_zero])
        refine wpAny_take (i := 1) (oi := { dst := some 24, op := Go.Op.move (Go.Operand.tmp 5), type := 3, pos := "read.go:85", after := #[], guard := none }) (v := ?_) rfl (by kernel_rfl) (by kernel_rfl) (by kernel_rfl) (fun _ _ _ h => h) (Or.inl ⟨by rfl, ?_⟩) ?_
        rotate_left
        · (intro w; go_simp; try with_reducible rfl)
        (try simp only [Act.put]); (try simp only [List.setIfInBounds_toArray]); (try simp only [List.set_cons_succ]); (try simp only [List.set_cons_zero])
        refine wpAny_take (i := 2) (oi := { dst := some 25, op := Go.Op.binOp Go.BinOp.quo 3 (Go.Operand.tmp 24) (Go.Operand.const (Go.Value.int Go.IntKind.i64 8)) 3, type := 3, pos := "read.go:85", after := #[{ on := 1, ground := Go.Ground.data }], guard := none }) (v := ?_) rfl (by kernel_rfl) (by kernel_rfl) (by kernel_rfl) (fun _ _ _ h => h) (Or.inl ⟨by rfl, ?_⟩) ?_
        rotate_left
        · (intro w; go_simp; try with_reducible rfl)
        (try simp only [Act.put]); (try simp only [List.setIfInBounds_toArray]); (try simp only [List.set_cons_succ]); (try simp only [List.set_cons_zero])
        refine wpAny_take (i := 3) (oi := { dst := some 26, op := Go.Op.indexAddr 28 (Go.Operand.tmp 23) (Go.Operand.tmp 25), type := 0, pos := "read.go:85", after := #[{ on := 0, ground := Go.Ground.data }, { on := 2, ground := Go.Ground.data }], guard := none }) (v := ?_) rfl (by kernel_rfl) (by kernel_rfl) (by kernel_rfl) (fun _ _ _ h => h) (Or.inl ⟨by rfl, ?_⟩) ?_
        rotate_left
        · (intro w; go_simp; try with_reducible rfl)
        (try simp only [Act.put]); (try simp only [List.setIfInBounds_toArray]); (try simp only [List.set_cons_succ]); (try simp only [List.set_cons_zero])
        refine wpAny_take (i := 5) (oi := { dst := some 28, op := Go.Op.move (Go.Operand.tmp 6), type := 5, pos := "read.go:85", after := #[], guard := none }) (v := ?_) rfl (by kernel_rfl) (by kernel_rfl) (by kernel_rfl) (fun _ _ _ h => h) (Or.inl ⟨by rfl, ?_⟩) ?_
        rotate_left
        · (intro w; go_simp; try with_reducible rfl)
        (try simp only [Act.put]); (try simp only [List.setIfInBounds_toArray]); (try simp only [List.set_cons_succ]); (try simp only [List.set_cons_zero])
        refine wpAny_take (i := 6) (oi := { dst := some 29, op := Go.Op.convert 5 51 (Go.Operand.tmp 28), type := 51, pos := "read.go:85", after := #[{ on := 5, ground := Go.Ground.data }], guard := none }) (v := ?_) rfl (by kernel_rfl) (by kernel_rfl) (by kernel_rfl) (fun _ _ _ h => h) (Or.inl ⟨by rfl, ?_⟩) ?_
        rotate_left
        · (intro w; go_simp; try with_reducible rfl)
        (try simp only [Act.put]); (try simp only [List.setIfInBounds_toArray]); (try simp only [List.set_cons_succ]); (try simp only [List.set_cons_zero])
        refine wpAny_take (i := 7) (oi := { dst := some 30, op := Go.Op.move (Go.Operand.tmp 5), type := 3, pos := "read.go:85", after := #[], guard := none }) (v := ?_) rfl (by kernel_rfl) (by kernel_rfl) (by kernel_rfl) (fun _ _ _ h => h) (Or.inl ⟨by rfl, ?_⟩) ?_
        rotate_left
        · (intro w; go_simp; try with_reducible rfl)
        (try simp only [Act.put]); (try simp only [List.setIfInBounds_toArray]); (try simp only [List.set_cons_succ]); (try simp only [List.set_cons_zero])
        refine wpAny_take (i := 8) (oi := { dst := some 31, op := Go.Op.binOp Go.BinOp.rem 3 (Go.Operand.tmp 30) (Go.Operand.const (Go.Value.int Go.IntKind.i64 8)) 3, type := 3, pos := "read.go:85", after := #[{ on := 7, ground := Go.Ground.data }], guard := none }) (v := ?_) rfl (by kernel_rfl) (by kernel_rfl) (by kernel_rfl) (fun _ _ _ h => h) (Or.inl ⟨by rfl, ?_⟩) ?_
        rotate_left
        · (intro w; go_simp; try with_reducible rfl)
        (try simp only [Act.put]); (try simp only [List.setIfInBounds_toArray]); (try simp only [List.set_cons_succ]); (try simp only [List.set_cons_zero])
        refine wpAny_take (i := 9) (oi := { dst := some 32, op := Go.Op.binOp Go.BinOp.mul 3 (Go.Operand.tmp 31) (Go.Operand.const (Go.Value.int Go.IntKind.i64 8)) 3, type := 3, pos := "read.go:85", after := #[{ on := 8, ground := Go.Ground.data }], guard := none }) (v := ?_) rfl (by kernel_rfl) (by kernel_rfl) (by kernel_rfl) (fun _ _ _ h => h) (Or.inl ⟨by rfl, ?_⟩) ?_
        rotate_left
        · (intro w; go_simp; try with_reducible rfl)
        (try simp only [Act.put]); (try simp only [List.setIfInBounds_toArray]); (try simp only [List.set_cons_succ]); (try simp only [List.set_cons_zero])
        refine wpAny_take (i := 10) (oi := { dst := some 33, op := Go.Op.binOp Go.BinOp.shl 51 (Go.Operand.tmp 29) (Go.Operand.tmp 32) 3, type := 51, pos := "read.go:85", after := #[{ on := 6, ground := Go.Ground.data }, { on := 9, ground := Go.Ground.data }], guard := none }) (v := ?_) rfl (by kernel_rfl) (by kernel_rfl) (by kernel_rfl) (fun _ _ _ h => h) (Or.inl ⟨by rfl, ?_⟩) ?_
        rotate_left
        · (intro w; go_simp; try with_reducible rfl)
        (try simp only [Act.put]); (try simp only [List.setIfInBounds_toArray]); (try simp only [List.set_cons_succ]); (try simp only [List.set_cons_zero])
        refine wpAny_ready (rs := [4]) (by kernel_rfl) (by simp) ?_
        refine AllReady.cons (o := { dst := some 27, op := Go.Op.load 51 (Go.Operand.tmp 26), type := 51, pos := "read.go:85", after := #[{ on := 3, ground := Go.Ground.data }], guard := none }) rfl (fun K hK => ?_) (AllReady.nil)
        · go_simp
          refine hK _ _ ?_
          clear hK K
          (try simp only [Act.put]); (try simp only [List.setIfInBounds_toArray]); (try simp only [List.set_cons_succ]); (try simp only [List.set_cons_zero])
          refine wpAny_take (i := 11) (oi := { dst := some 34, op := Go.Op.binOp Go.BinOp.or 51 (Go.Operand.tmp 27) (Go.Operand.tmp 33) 51, type := 51, pos := "read.go:85", after := #[{ on := 4, ground := Go.Ground.data }, { on := 10, ground := Go.Ground.data }], guard := none }) (v := ?_) rfl (by kernel_rfl) (by kernel_rfl) (by kernel_rfl) (fun _ _ _ h => h) (Or.inl ⟨by rfl, ?_⟩) ?_
          rotate_left
          · (intro w; go_simp; try with_reducible rfl)
          (try simp only [Act.put]); (try simp only [List.setIfInBounds_toArray]); (try simp only [List.set_cons_succ]); (try simp only [List.set_cons_zero])
          refine wpAny_take (i := 12) (oi := { dst := some 35, op := Go.Op.indexAddr 28 (Go.Operand.tmp 23) (Go.Operand.tmp 25), type := 0, pos := "read.go:85", after := #[{ on := 0, ground := Go.Ground.data }, { on := 2, ground := Go.Ground.data }, { on := 0, ground := Go.Ground.phase }, { on := 1, ground := Go.Ground.phase }, { on := 2, ground := Go.Ground.phase }, { on := 3, ground := Go.Ground.phase }, { on := 4, ground := Go.Ground.phase }, { on := 5, ground := Go.Ground.phase }, { on := 6, ground := Go.Ground.phase }, { on := 7, ground := Go.Ground.phase }, { on := 8, ground := Go.Ground.phase }, { on := 9, ground := Go.Ground.phase }, { on := 10, ground := Go.Ground.phase }, { on := 11, ground := Go.Ground.phase }], guard := none }) (v := ?_) rfl (by kernel_rfl) (by kernel_rfl) (by kernel_rfl) (fun _ _ _ h => h) (Or.inl ⟨by rfl, ?_⟩) ?_
          rotate_left
          · (intro w; go_simp; try with_reducible rfl)
          (try simp only [Act.put]); (try simp only [List.setIfInBounds_toArray]); (try simp only [List.set_cons_succ]); (try simp only [List.set_cons_zero])
          refine wpAny_ready (rs := [13]) (by kernel_rfl) (by simp) ?_
          refine AllReady.cons (o := { dst := none, op := Go.Op.store 51 (Go.Operand.tmp 35) (Go.Operand.tmp 34), type := 0, pos := "read.go:85", after := #[{ on := 12, ground := Go.Ground.data }, { on := 11, ground := Go.Ground.data }, { on := 0, ground := Go.Ground.phase }, { on := 1, ground := Go.Ground.phase }, { on := 2, ground := Go.Ground.phase }, { on := 3, ground := Go.Ground.phase }, { on := 4, ground := Go.Ground.phase }, { on := 5, ground := Go.Ground.phase }, { on := 6, ground := Go.Ground.phase }, { on := 7, ground := Go.Ground.phase }, { on := 8, ground := Go.Ground.phase }, { on := 9, ground := Go.Ground.phase }, { on := 10, ground := Go.Ground.phase }, { on := 11, ground := Go.Ground.phase }], guard := none }) rfl (fun K hK => ?_) (AllReady.nil)
          · go_simp
            refine hK _ _ ?_
            clear hK K
            (try simp only [Act.put]); (try simp only [List.setIfInBounds_toArray]); (try simp only [List.set_cons_succ]); (try simp only [List.set_cons_zero])
            refine wpAny_done (by kernel_rfl) ?_ _
            go_wp2_with fail
            go_roundg (8 * N - (k + 1))
            case measure => omega
            case rel => exact ⟨k + 1, by omega, by go_num, F2⟩
      · have mw : IntKind.i64.wrap 40 = 40 := by rw [IntKind.wrap_i64]; omega
        have kr : (k : Int).tmod 8 = 5 := by rw [Int.tmod_eq_emod_of_nonneg (by omega)]; omega
        have xw0 : IntKind.u64.wrap (x.toNat : Int) = (x.toNat : Int) := by rw [IntKind.wrap_u64]; omega
        have xw : IntKind.u64.wrap ((x.toNat : Int) * 1099511627776) = (x.toNat : Int) * 1099511627776 := by rw [IntKind.wrap_u64]; omega
        have OX : bits .or .u64 (o : Int) ((x.toNat : Int) * 1099511627776) = (o : Int) + (x.toNat : Int) * 1099511627776 := by
          have e1 : ((x.toNat * 256 ^ 5 : Nat) : Int) = (x.toNat : Int) * 1099511627776 := by rw [show (256 : Nat) ^ 5 = 1099511627776 from rfl]; omega
          have e2 : ((o + x.toNat * 256 ^ 5 : Nat) : Int) = (o : Int) + (x.toNat : Int) * 1099511627776 := by rw [show (256 : Nat) ^ 5 = 1099511627776 from rfl]; omega
          rw [e1, e2] at OR; exact OR
        have F2 : Hid (Cd.UB (wr.drew.setCell ⟨g, j, none⟩ (.int .u64 ((o : Int) + (x.toNat : Int) * 1099511627776))) g (V (k + 1)) ∧ Below g w3 (wr.drew.setCell ⟨g, j, none⟩ (.int .u64 ((o : Int) + (x.toNat : Int) * 1099511627776)))) := by
          have q := JP.out
          rw [show (o : Int) + (x.toNat : Int) * 256 ^ 5 = (o : Int) + (x.toNat : Int) * 1099511627776 by rw [show (256 : Int) ^ 5 = 1099511627776 from rfl]] at q
          exact ⟨q, JB.out _⟩
        clear hr hjr OR JP JB w1 sg xl
        go_upto_region 6 with fail
        refine wp_region_any (by kernel_rfl) ?_
        change wpAny _ _ _ _ _ _ _ (World.drew _)
        refine wpAny_take (i := 0) (oi := { dst := some 23, op := Go.Op.move (Go.Operand.tmp 4), type := 28, pos := "read.go:85", after := #[], guard := none }) (v := ?_) rfl (by kernel_rfl) (by kernel_rfl) (by kernel_rfl) (fun _ _ _ h => h) (Or.inl ⟨by rfl, ?_⟩) ?_
        rotate_left
        · (intro w; go_simp; try with_reducible rfl)
        (try simp only [Act.put]); (try simp only [List.setIfInBounds_toArray]); (try simp only [List.set_cons_succ]); (try simp only [List.set_cons_zero])
        refine wpAny_take (i := 1) (oi := { dst := some 24, op := Go.Op.move (Go.Operand.tmp 5), type := 3, pos := "read.go:85", after := #[], guard := none }) (v := ?_) rfl (by kernel_rfl) (by kernel_rfl) (by kernel_rfl) (fun _ _ _ h => h) (Or.inl ⟨by rfl, ?_⟩) ?_
        rotate_left
        · (intro w; go_simp; try with_reducible rfl)
        (try simp only [Act.put]); (try simp only [List.setIfInBounds_toArray]); (try simp only [List.set_cons_succ]); (try simp only [List.set_cons_zero])
        refine wpAny_take (i := 2) (oi := { dst := some 25, op := Go.Op.binOp Go.BinOp.quo 3 (Go.Operand.tmp 24) (Go.Operand.const (Go.Value.int Go.IntKind.i64 8)) 3, type := 3, pos := "read.go:85", after := #[{ on := 1, ground := Go.Ground.data }], guard := none }) (v := ?_) rfl (by kernel_rfl) (by kernel_rfl) (by kernel_rfl) (fun _ _ _ h => h) (Or.inl ⟨by rfl, ?_⟩) ?_
        rotate_left
        · (intro w; go_simp; try with_reducible rfl)
        (try simp only [Act.put]); (try simp only [List.setIfInBounds_toArray]); (try simp only [List.set_cons_succ]); (try simp only [List.set_cons_zero])
        refine wpAny_take (i := 3) (oi := { dst := some 26, op := Go.Op.indexAddr 28 (Go.Operand.tmp 23) (Go.Operand.tmp 25), type := 0, pos := "read.go:85", after := #[{ on := 0, ground := Go.Ground.data }, { on := 2, ground := Go.Ground.data }], guard := none }) (v := ?_) rfl (by kernel_rfl) (by kernel_rfl) (by kernel_rfl) (fun _ _ _ h => h) (Or.inl ⟨by rfl, ?_⟩) ?_
        rotate_left
        · (intro w; go_simp; try with_reducible rfl)
        (try simp only [Act.put]); (try simp only [List.setIfInBounds_toArray]); (try simp only [List.set_cons_succ]); (try simp only [List.set_cons_zero])
        refine wpAny_take (i := 5) (oi := { dst := some 28, op := Go.Op.move (Go.Operand.tmp 6), type := 5, pos := "read.go:85", after := #[], guard := none }) (v := ?_) rfl (by kernel_rfl) (by kernel_rfl) (by kernel_rfl) (fun _ _ _ h => h) (Or.inl ⟨by rfl, ?_⟩) ?_
        rotate_left
        · (intro w; go_simp; try with_reducible rfl)
        (try simp only [Act.put]); (try simp only [List.setIfInBounds_toArray]); (try simp only [List.set_cons_succ]); (try simp only [List.set_cons_zero])
        refine wpAny_take (i := 6) (oi := { dst := some 29, op := Go.Op.convert 5 51 (Go.Operand.tmp 28), type := 51, pos := "read.go:85", after := #[{ on := 5, ground := Go.Ground.data }], guard := none }) (v := ?_) rfl (by kernel_rfl) (by kernel_rfl) (by kernel_rfl) (fun _ _ _ h => h) (Or.inl ⟨by rfl, ?_⟩) ?_
        rotate_left
        · (intro w; go_simp; try with_reducible rfl)
        (try simp only [Act.put]); (try simp only [List.setIfInBounds_toArray]); (try simp only [List.set_cons_succ]); (try simp only [List.set_cons_zero])
        refine wpAny_take (i := 7) (oi := { dst := some 30, op := Go.Op.move (Go.Operand.tmp 5), type := 3, pos := "read.go:85", after := #[], guard := none }) (v := ?_) rfl (by kernel_rfl) (by kernel_rfl) (by kernel_rfl) (fun _ _ _ h => h) (Or.inl ⟨by rfl, ?_⟩) ?_
        rotate_left
        · (intro w; go_simp; try with_reducible rfl)
        (try simp only [Act.put]); (try simp only [List.setIfInBounds_toArray]); (try simp only [List.set_cons_succ]); (try simp only [List.set_cons_zero])
        refine wpAny_take (i := 8) (oi := { dst := some 31, op := Go.Op.binOp Go.BinOp.rem 3 (Go.Operand.tmp 30) (Go.Operand.const (Go.Value.int Go.IntKind.i64 8)) 3, type := 3, pos := "read.go:85", after := #[{ on := 7, ground := Go.Ground.data }], guard := none }) (v := ?_) rfl (by kernel_rfl) (by kernel_rfl) (by kernel_rfl) (fun _ _ _ h => h) (Or.inl ⟨by rfl, ?_⟩) ?_
        rotate_left
        · (intro w; go_simp; try with_reducible rfl)
        (try simp only [Act.put]); (try simp only [List.setIfInBounds_toArray]); (try simp only [List.set_cons_succ]); (try simp only [List.set_cons_zero])
        refine wpAny_take (i := 9) (oi := { dst := some 32, op := Go.Op.binOp Go.BinOp.mul 3 (Go.Operand.tmp 31) (Go.Operand.const (Go.Value.int Go.IntKind.i64 8)) 3, type := 3, pos := "read.go:85", after := #[{ on := 8, ground := Go.Ground.data }], guard := none }) (v := ?_) rfl (by kernel_rfl) (by kernel_rfl) (by kernel_rfl) (fun _ _ _ h => h) (Or.inl ⟨by rfl, ?_⟩) ?_
        rotate_left
        · (intro w; go_simp; try with_reducible rfl)
        (try simp only [Act.put]); (try simp only [List.setIfInBounds_toArray]); (try simp only [List.set_cons_succ]); (try simp only [List.set_cons_zero])
        refine wpAny_take (i := 10) (oi := { dst := some 33, op := Go.Op.binOp Go.BinOp.shl 51 (Go.Operand.tmp 29) (Go.Operand.tmp 32) 3, type := 51, pos := "read.go:85", after := #[{ on := 6, ground := Go.Ground.data }, { on := 9, ground := Go.Ground.data }], guard := none }) (v := ?_) rfl (by kernel_rfl) (by kernel_rfl) (by kernel_rfl) (fun _ _ _ h => h) (Or.inl ⟨by rfl, ?_⟩) ?_
        rotate_left
        · (intro w; go_simp; try with_reducible rfl)
        (try simp only [Act.put]); (try simp only [List.setIfInBounds_toArray]); (try simp only [List.set_cons_succ]); (try simp only [List.set_cons_zero])
        refine wpAny_ready (rs := [4]) (by kernel_rfl) (by simp) ?_
        refine AllReady.cons (o := { dst := some 27, op := Go.Op.load 51 (Go.Operand.tmp 26), type := 51, pos := "read.go:85", after := #[{ on := 3, ground := Go.Ground.data }], guard := none }) rfl (fun K hK => ?_) (AllReady.nil)
        · go_simp
          refine hK _ _ ?_
          clear hK K
          (try simp only [Act.put]); (try simp only [List.setIfInBounds_toArray]); (try simp only [List.set_cons_succ]); (try simp only [List.set_cons_zero])
          refine wpAny_take (i := 11) (oi := { dst := some 34, op := Go.Op.binOp Go.BinOp.or 51 (Go.Operand.tmp 27) (Go.Operand.tmp 33) 51, type := 51, pos := "read.go:85", after := #[{ on := 4, ground := Go.Ground.data }, { on := 10, ground := Go.Ground.data }], guard := none }) (v := ?_) rfl (by kernel_rfl) (by kernel_rfl) (by kernel_rfl) (fun _ _ _ h => h) (Or.inl ⟨by rfl, ?_⟩) ?_
          rotate_left
          · (intro w; go_simp; try with_reducible rfl)
          (try simp only [Act.put]); (try simp only [List.setIfInBounds_toArray]); (try simp only [List.set_cons_succ]); (try simp only [List.set_cons_zero])
          refine wpAny_take (i := 12) (oi := { dst := some 35, op := Go.Op.indexAddr 28 (Go.Operand.tmp 23) (Go.Operand.tmp 25), type := 0, pos := "read.go:85", after := #[{ on := 0, ground := Go.Ground.data }, { on := 2, ground := Go.Ground.data }, { on := 0, ground := Go.Ground.phase }, { on := 1, ground := Go.Ground.phase }, { on := 2, ground := Go.Ground.phase }, { on := 3, ground := Go.Ground.phase }, { on := 4, ground := Go.Ground.phase }, { on := 5, ground := Go.Ground.phase }, { on := 6, ground := Go.Ground.phase }, { on := 7, ground := Go.Ground.phase }, { on := 8, ground := Go.Ground.phase }, { on := 9, ground := Go.Ground.phase }, { on := 10, ground := Go.Ground.phase }, { on := 11, ground := Go.Ground.phase }], guard := none }) (v := ?_) rfl (by kernel_rfl) (by kernel_rfl) (by kernel_rfl) (fun _ _ _ h => h) (Or.inl ⟨by rfl, ?_⟩) ?_
          rotate_left
          · (intro w; go_simp; try with_reducible rfl)
          (try simp only [Act.put]); (try simp only [List.setIfInBounds_toArray]); (try simp only [List.set_cons_succ]); (try simp only [List.set_cons_zero])
          refine wpAny_ready (rs := [13]) (by kernel_rfl) (by simp) ?_
          refine AllReady.cons (o := { dst := none, op := Go.Op.store 51 (Go.Operand.tmp 35) (Go.Operand.tmp 34), type := 0, pos := "read.go:85", after := #[{ on := 12, ground := Go.Ground.data }, { on := 11, ground := Go.Ground.data }, { on := 0, ground := Go.Ground.phase }, { on := 1, ground := Go.Ground.phase }, { on := 2, ground := Go.Ground.phase }, { on := 3, ground := Go.Ground.phase }, { on := 4, ground := Go.Ground.phase }, { on := 5, ground := Go.Ground.phase }, { on := 6, ground := Go.Ground.phase }, { on := 7, ground := Go.Ground.phase }, { on := 8, ground := Go.Ground.phase }, { on := 9, ground := Go.Ground.phase }, { on := 10, ground := Go.Ground.phase }, { on := 11, ground := Go.Ground.phase }], guard := none }) rfl (fun K hK => ?_) (AllReady.nil)
          · go_simp
            refine hK _ _ ?_
            clear hK K
            (try simp only [Act.put]); (try simp only [List.setIfInBounds_toArray]); (try simp only [List.set_cons_succ]); (try simp only [List.set_cons_zero])
            refine wpAny_done (by kernel_rfl) ?_ _
            go_wp2_with fail
            go_roundg (8 * N - (k + 1))
            case measure => omega
            case rel => exact ⟨k + 1, by omega, by go_num, F2⟩
      · have mw : IntKind.i64.wrap 48 = 48 := by rw [IntKind.wrap_i64]; omega
        have kr : (k : Int).tmod 8 = 6 := by rw [Int.tmod_eq_emod_of_nonneg (by omega)]; omega
        have xw0 : IntKind.u64.wrap (x.toNat : Int) = (x.toNat : Int) := by rw [IntKind.wrap_u64]; omega
        have xw : IntKind.u64.wrap ((x.toNat : Int) * 281474976710656) = (x.toNat : Int) * 281474976710656 := by rw [IntKind.wrap_u64]; omega
        have OX : bits .or .u64 (o : Int) ((x.toNat : Int) * 281474976710656) = (o : Int) + (x.toNat : Int) * 281474976710656 := by
          have e1 : ((x.toNat * 256 ^ 6 : Nat) : Int) = (x.toNat : Int) * 281474976710656 := by rw [show (256 : Nat) ^ 6 = 281474976710656 from rfl]; omega
          have e2 : ((o + x.toNat * 256 ^ 6 : Nat) : Int) = (o : Int) + (x.toNat : Int) * 281474976710656 := by rw [show (256 : Nat) ^ 6 = 281474976710656 from rfl]; omega
          rw [e1, e2] at OR; exact OR
        have F2 : Hid (Cd.UB (wr.drew.setCell ⟨g, j, none⟩ (.int .u64 ((o : Int) + (x.toNat : Int) * 281474976710656))) g (V (k + 1)) ∧ Below g w3 (wr.drew.setCell ⟨g, j, none⟩ (.int .u64 ((o : Int) + (x.toNat : Int) * 281474976710656)))) := by
          have q := JP.out
          rw [show (o : Int) + (x.toNat : Int) * 256 ^ 6 = (o : Int) + (x.toNat : Int) * 281474976710656 by rw [show (256 : Int) ^ 6 = 281474976710656 from rfl]] at q
          exact ⟨q, JB.out _⟩
        clear hr hjr OR JP JB w1 sg xl
        go_upto_region 6 with fail
        refine wp_region_any (by kernel_rfl) ?_
        change wpAny _ _ _ _ _ _ _ (World.drew _)
        refine wpAny_take (i := 0) (oi := { dst := some 23, op := Go.Op.move (Go.Operand.tmp 4), type := 28, pos := "read.go:85", after := #[], guard := none }) (v := ?_) rfl (by kernel_rfl) (by kernel_rfl) (by kernel_rfl) (fun _ _ _ h => h) (Or.inl ⟨by rfl, ?_⟩) ?_
        rotate_left
        · (intro w; go_simp; try with_reducible rfl)
        (try simp only [Act.put]); (try simp only [List.setIfInBounds_toArray]); (try simp only [List.set_cons_succ]); (try simp only [List.set_cons_zero])
        refine wpAny_take (i := 1) (oi := { dst := some 24, op := Go.Op.move (Go.Operand.tmp 5), type := 3, pos := "read.go:85", after := #[], guard := none }) (v := ?_) rfl (by kernel_rfl) (by kernel_rfl) (by kernel_rfl) (fun _ _ _ h => h) (Or.inl ⟨by rfl, ?_⟩) ?_
        rotate_left
        · (intro w; go_simp; try with_reducible rfl)
        (try simp only [Act.put]); (try simp only [List.setIfInBounds_toArray]); (try simp only [List.set_cons_succ]); (try simp only [List.set_cons_zero])
        refine wpAny_take (i := 2) (oi := { dst := some 25, op := Go.Op.binOp Go.BinOp.quo 3 (Go.Operand.tmp 24) (Go.Operand.const (Go.Value.int Go.IntKind.i64 8)) 3, type := 3, pos := "read.go:85", after := #[{ on := 1, ground := Go.Ground.data }], guard := none }) (v := ?_) rfl (by kernel_rfl) (by kernel_rfl) (by kernel_rfl) (fun _ _ _ h => h) (Or.inl ⟨by rfl, ?_⟩) ?_
        rotate_left
        · (intro w; go_simp; try with_reducible rfl)
        (try simp only [Act.put]); (try simp only [List.setIfInBounds_toArray]); (try simp only [List.set_cons_succ]); (try simp only [List.set_cons_zero])
        refine wpAny_take (i := 3) (oi := { dst := some 26, op := Go.Op.indexAddr 28 (Go.Operand.tmp 23) (Go.Operand.tmp 25), type := 0, pos := "read.go:85", after := #[{ on := 0, ground := Go.Ground.data }, { on := 2, ground := Go.Ground.data }], guard := none }) (v := ?_) rfl (by kernel_rfl) (by kernel_rfl) (by kernel_rfl) (fun _ _ _ h => h) (Or.inl ⟨by rfl, ?_⟩) ?_
        rotate_left
        · (intro w; go_simp; try with_reducible rfl)
        (try simp only [Act.put]); (try simp only [List.setIfInBounds_toArray]); (try simp only [List.set_cons_succ]); (try simp only [List.set_cons_zero])
        refine wpAny_take (i := 5) (oi := { dst := some 28, op := Go.Op.move (Go.Operand.tmp 6), type := 5, pos := "read.go:85", after := #[], guard := none }) (v := ?_) rfl (by kernel_rfl) (by kernel_rfl) (by kernel_rfl) (fun _ _ _ h => h) (Or.inl ⟨by rfl, ?_⟩) ?_
        rotate_left
        · (intro w; go_simp; try with_reducible rfl)
        (try simp only [Act.put]); (try simp only [List.setIfInBounds_toArray]); (try simp only [List.set_cons_succ]); (try simp only [List.set_cons_zero])
        refine wpAny_take (i := 6) (oi := { dst := some 29, op := Go.Op.convert 5 51 (Go.Operand.tmp 28), type := 51, pos := "read.go:85", after := #[{ on := 5, ground := Go.Ground.data }], guard := none }) (v := ?_) rfl (by kernel_rfl) (by kernel_rfl) (by kernel_rfl) (fun _ _ _ h => h) (Or.inl ⟨by rfl, ?_⟩) ?_
        rotate_left
        · (intro w; go_simp; try with_reducible rfl)
        (try simp only [Act.put]); (try simp only [List.setIfInBounds_toArray]); (try simp only [List.set_cons_succ]); (try simp only [List.set_cons_zero])
        refine wpAny_take (i := 7) (oi := { dst := some 30, op := Go.Op.move (Go.Operand.tmp 5), type := 3, pos := "read.go:85", after := #[], guard := none }) (v := ?_) rfl (by kernel_rfl) (by kernel_rfl) (by kernel_rfl) (fun _ _ _ h => h) (Or.inl ⟨by rfl, ?_⟩) ?_
        rotate_left
        · (intro w; go_simp; try with_reducible rfl)
        (try simp only [Act.put]); (try simp only [List.setIfInBounds_toArray]); (try simp only [List.set_cons_succ]); (try simp only [List.set_cons_zero])
        refine wpAny_take (i := 8) (oi := { dst := some 31, op := Go.Op.binOp Go.BinOp.rem 3 (Go.Operand.tmp 30) (Go.Operand.const (Go.Value.int Go.IntKind.i64 8)) 3, type := 3, pos := "read.go:85", after := #[{ on := 7, ground := Go.Ground.data }], guard := none }) (v := ?_) rfl (by kernel_rfl) (by kernel_rfl) (by kernel_rfl) (fun _ _ _ h => h) (Or.inl ⟨by rfl, ?_⟩) ?_
        rotate_left
        · (intro w; go_simp; try with_reducible rfl)
        (try simp only [Act.put]); (try simp only [List.setIfInBounds_toArray]); (try simp only [List.set_cons_succ]); (try simp only [List.set_cons_zero])
        refine wpAny_take (i := 9) (oi := { dst := some 32, op := Go.Op.binOp Go.BinOp.mul 3 (Go.Operand.tmp 31) (Go.Operand.const (Go.Value.int Go.IntKind.i64 8)) 3, type := 3, pos := "read.go:85", after := #[{ on := 8, ground := Go.Ground.data }], guard := none }) (v := ?_) rfl (by kernel_rfl) (by kernel_rfl) (by kernel_rfl) (fun _ _ _ h => h) (Or.inl ⟨by rfl, ?_⟩) ?_
        rotate_left
        · (intro w; go_simp; try with_reducible rfl)
        (try simp only [Act.put]); (try simp only [List.setIfInBounds_toArray]); (try simp only [List.set_cons_succ]); (try simp only [List.set_cons_zero])
        refine wpAny_take (i := 10) (oi := { dst := some 33, op := Go.Op.binOp Go.BinOp.shl 51 (Go.Operand.tmp 29) (Go.Operand.tmp 32) 3, type := 51, pos := "read.go:85", after := #[{ on := 6, ground := Go.Ground.data }, { on := 9, ground := Go.Ground.data }], guard := none }) (v := ?_) rfl (by kernel_rfl) (by kernel_rfl) (by kernel_rfl) (fun _ _ _ h => h) (Or.inl ⟨by rfl, ?_⟩) ?_
        rotate_left
        · (intro w; go_simp; try with_reducible rfl)
        (try simp only [Act.put]); (try simp only [List.setIfInBounds_toArray]); (try simp only [List.set_cons_succ]); (try simp only [List.set_cons_zero])
        refine wpAny_ready (rs := [4]) (by kernel_rfl) (by simp) ?_
        refine AllReady.cons (o := { dst := some 27, op := Go.Op.load 51 (Go.Operand.tmp 26), type := 51, pos := "read.go:85", after := #[{ on := 3, ground := Go.Ground.data }], guard := none }) rfl (fun K hK => ?_) (AllReady.nil)
        · go_simp
          refine hK _ _ ?_
          clear hK K
          (try simp only [Act.put]); (try simp only [List.setIfInBounds_toArray]); (try simp only [List.set_cons_succ]); (try simp only [List.set_cons_zero])
          refine wpAny_take (i := 11) (oi := { dst := some 34, op := Go.Op.binOp Go.BinOp.or 51 (Go.Operand.tmp 27) (Go.Operand.tmp 33) 51, type := 51, pos := "read.go:85", after := #[{ on := 4, ground := Go.Ground.data }, { on := 10, ground := Go.Ground.data }], guard := none }) (v := ?_) rfl (by kernel_rfl) (by kernel_rfl) (by kernel_rfl) (fun _ _ _ h => h) (Or.inl ⟨by rfl, ?_⟩) ?_
          rotate_left
          · (intro w; go_simp; try with_reducible rfl)
          (try simp only [Act.put]); (try simp only [List.setIfInBounds_toArray]); (try simp only [List.set_cons_succ]); (try simp only [List.set_cons_zero])
          refine wpAny_take (i := 12) (oi := { dst := some 35, op := Go.Op.indexAddr 28 (Go.Operand.tmp 23) (Go.Operand.tmp 25), type := 0, pos := "read.go:85", after := #[{ on := 0, ground := Go.Ground.data }, { on := 2, ground := Go.Ground.data }, { on := 0, ground := Go.Ground.phase }, { on := 1, ground := Go.Ground.phase }, { on := 2, ground := Go.Ground.phase }, { on := 3, ground := Go.Ground.phase }, { on := 4, ground := Go.Ground.phase }, { on := 5, ground := Go.Ground.phase }, { on := 6, ground := Go.Ground.phase }, { on := 7, ground := Go.Ground.phase }, { on := 8, ground := Go.Ground.phase }, { on := 9, ground := Go.Ground.phase }, { on := 10, ground := Go.Ground.phase }, { on := 11, ground := Go.Ground.phase }], guard := none }) (v := ?_) rfl (by kernel_rfl) (by kernel_rfl) (by kernel_rfl) (fun _ _ _ h => h) (Or.inl ⟨by rfl, ?_⟩) ?_
          rotate_left
          · (intro w; go_simp; try with_reducible rfl)
          (try simp only [Act.put]); (try simp only [List.setIfInBounds_toArray]); (try simp only [List.set_cons_succ]); (try simp only [List.set_cons_zero])
          refine wpAny_ready (rs := [13]) (by kernel_rfl) (by simp) ?_
          refine AllReady.cons (o := { dst := none, op := Go.Op.store 51 (Go.Operand.tmp 35) (Go.Operand.tmp 34), type := 0, pos := "read.go:85", after := #[{ on := 12, ground := Go.Ground.data }, { on := 11, ground := Go.Ground.data }, { on := 0, ground := Go.Ground.phase }, { on := 1, ground := Go.Ground.phase }, { on := 2, ground := Go.Ground.phase }, { on := 3, ground := Go.Ground.phase }, { on := 4, ground := Go.Ground.phase }, { on := 5, ground := Go.Ground.phase }, { on := 6, ground := Go.Ground.phase }, { on := 7, ground := Go.Ground.phase }, { on := 8, ground := Go.Ground.phase }, { on := 9, ground := Go.Ground.phase }, { on := 10, ground := Go.Ground.phase }, { on := 11, ground := Go.Ground.phase }], guard := none }) rfl (fun K hK => ?_) (AllReady.nil)
          · go_simp
            refine hK _ _ ?_
            clear hK K
            (try simp only [Act.put]); (try simp only [List.setIfInBounds_toArray]); (try simp only [List.set_cons_succ]); (try simp only [List.set_cons_zero])
            refine wpAny_done (by kernel_rfl) ?_ _
            go_wp2_with fail
            go_roundg (8 * N - (k + 1))
            case measure => omega
            case rel => exact ⟨k + 1, by omega, by go_num, F2⟩
      · have mw : IntKind.i64.wrap 56 = 56 := by rw [IntKind.wrap_i64]; omega
        have kr : (k : Int).tmod 8 = 7 := by rw [Int.tmod_eq_emod_of_nonneg (by omega)]; omega
        have xw0 : IntKind.u64.wrap (x.toNat : Int) = (x.toNat : Int) := by rw [IntKind.wrap_u64]; omega
        have xw : IntKind.u64.wrap ((x.toNat : Int) * 72057594037927936) = (x.toNat : Int) * 72057594037927936 := by rw [IntKind.wrap_u64]; omega
        have OX : bits .or .u64 (o : Int) ((x.toNat : Int) * 72057594037927936) = (o : Int) + (x.toNat : Int) * 72057594037927936 := by
          have e1 : ((x.toNat * 256 ^ 7 : Nat) : Int) = (x.toNat : Int) * 72057594037927936 := by rw [show (256 : Nat) ^ 7 = 72057594037927936 from rfl]; omega
          have e2 : ((o + x.toNat * 256 ^ 7 : Nat) : Int) = (o : Int) + (x.toNat : Int) * 72057594037927936 := by rw [show (256 : Nat) ^ 7 = 72057594037927936 from rfl]; omega
          rw [e1, e2] at OR; exact OR
        have F2 : Hid (Cd.UB (wr.drew.setCell ⟨g, j, none⟩ (.int .u64 ((o : Int) + (x.toNat : Int) * 72057594037927936))) g (V (k + 1)) ∧ Below g w3 (wr.drew.setCell ⟨g, j, none⟩ (.int .u64 ((o : Int) + (x.toNat : Int) * 72057594037927936)))) := by
          have q := JP.out
          rw [show (o : Int) + (x.toNat : Int) * 256 ^ 7 = (o : Int) + (x.toNat : Int) * 72057594037927936 by rw [show (256 : Int) ^ 7 = 72057594037927936 from rfl]] at q
          exact ⟨q, JB.out _⟩
        clear hr hjr OR JP JB w1 sg xl
        go_upto_region 6 with fail
        refine wp_region_any (by kernel_rfl) ?_
        change wpAny _ _ _ _ _ _ _ (World.drew _)
        refine wpAny_take (i := 0) (oi := { dst := some 23, op := Go.Op.move (Go.Operand.tmp 4), type := 28, pos := "read.go:85", after := #[], guard := none }) (v := ?_) rfl (by kernel_rfl) (by kernel_rfl) (by kernel_rfl) (fun _ _ _ h => h) (Or.inl ⟨by rfl, ?_⟩) ?_
        rotate_left
        · (intro w; go_simp; try with_reducible rfl)
        (try simp only [Act.put]); (try simp only [List.setIfInBounds_toArray]); (try simp only [List.set_cons_succ]); (try simp only [List.set_cons_zero])
        refine wpAny_take (i := 1) (oi := { dst := some 24, op := Go.Op.move (Go.Operand.tmp 5), type := 3, pos := "read.go:85", after := #[], guard := none }) (v := ?_) rfl (by kernel_rfl) (by kernel_rfl) (by kernel_rfl) (fun _ _ _ h => h) (Or.inl ⟨by rfl, ?_⟩) ?_
        rotate_left
        · (intro w; go_simp; try with_reducible rfl)
        (try simp only [Act.put]); (try simp only [List.setIfInBounds_toArray]); (try simp only [List.set_cons_succ]); (try simp only [List.set_cons_zero])
        refine wpAny_take (i := 2) (oi := { dst := some 25, op := Go.Op.binOp Go.BinOp.quo 3 (Go.Operand.tmp 24) (Go.Operand.const (Go.Value.int Go.IntKind.i64 8)) 3, type := 3, pos := "read.go:85", after := #[{ on := 1, ground := Go.Ground.data }], guard := none }) (v := ?_) rfl (by kernel_rfl) (by kernel_rfl) (by kernel_rfl) (fun _ _ _ h => h) (Or.inl ⟨by rfl, ?_⟩) ?_
        rotate_left
        · (intro w; go_simp; try with_reducible rfl)
        (try simp only [Act.put]); (try simp only [List.setIfInBounds_toArray]); (try simp only [List.set_cons_succ]); (try simp only [List.set_cons_zero])
        refine wpAny_take (i := 3) (oi := { dst := some 26, op := Go.Op.indexAddr 28 (Go.Operand.tmp 23) (Go.Operand.tmp 25), type := 0, pos := "read.go:85", after := #[{ on := 0, ground := Go.Ground.data }, { on := 2, ground := Go.Ground.data }], guard := none }) (v := ?_) rfl (by kernel_rfl) (by kernel_rfl) (by kernel_rfl) (fun _ _ _ h => h) (Or.inl ⟨by rfl, ?_⟩) ?_
        rotate_left
        · (intro w; go_simp; try with_reducible rfl)
        (try simp only [Act.put]); (try simp only [List.setIfInBounds_toArray]); (try simp only [List.set_cons_succ]); (try simp only [List.set_cons_zero])
        refine wpAny_take (i := 5) (oi := { dst := some 28, op := Go.Op.move (Go.Operand.tmp 6), type := 5, pos := "read.go:85", after := #[], guard := none }) (v := ?_) rfl (by kernel_rfl) (by kernel_rfl) (by kernel_rfl) (fun _ _ _ h => h) (Or.inl ⟨by rfl, ?_⟩) ?_
        rotate_left
        · (intro w; go_simp; try with_reducible rfl)
        (try simp only [Act.put]); (try simp only [List.setIfInBounds_toArray]); (try simp only [List.set_cons_succ]); (try simp only [List.set_cons_zero])
        refine wpAny_take (i := 6) (oi := { dst := some 29, op := Go.Op.convert 5 51 (Go.Operand.tmp 28), type := 51, pos := "read.go:85", after := #[{ on := 5, ground := Go.Ground.data }], guard := none }) (v := ?_) rfl (by kernel_rfl) (by kernel_rfl) (by kernel_rfl) (fun _ _ _ h => h) (Or.inl ⟨by rfl, ?_⟩) ?_
        rotate_left
        · (intro w; go_simp; try with_reducible rfl)
        (try simp only [Act.put]); (try simp only [List.setIfInBounds_toArray]); (try simp only [List.set_cons_succ]); (try simp only [List.set_cons_zero])
        refine wpAny_take (i := 7) (oi := { dst := some 30, op := Go.Op.move (Go.Operand.tmp 5), type := 3, pos := "read.go:85", after := #[], guard := none }) (v := ?_) rfl (by kernel_rfl) (by kernel_rfl) (by kernel_rfl) (fun _ _ _ h => h) (Or.inl ⟨by rfl, ?_⟩) ?_
        rotate_left
        · (intro w; go_simp; try with_reducible rfl)
        (try simp only [Act.put]); (try simp only [List.setIfInBounds_toArray]); (try simp only [List.set_cons_succ]); (try simp only [List.set_cons_zero])
        refine wpAny_take (i := 8) (oi := { dst := some 31, op := Go.Op.binOp Go.BinOp.rem 3 (Go.Operand.tmp 30) (Go.Operand.const (Go.Value.int Go.IntKind.i64 8)) 3, type := 3, pos := "read.go:85", after := #[{ on := 7, ground := Go.Ground.data }], guard := none }) (v := ?_) rfl (by kernel_rfl) (by kernel_rfl) (by kernel_rfl) (fun _ _ _ h => h) (Or.inl ⟨by rfl, ?_⟩) ?_
        rotate_left
        · (intro w; go_simp; try with_reducible rfl)
        (try simp only [Act.put]); (try simp only [List.setIfInBounds_toArray]); (try simp only [List.set_cons_succ]); (try simp only [List.set_cons_zero])
        refine wpAny_take (i := 9) (oi := { dst := some 32, op := Go.Op.binOp Go.BinOp.mul 3 (Go.Operand.tmp 31) (Go.Operand.const (Go.Value.int Go.IntKind.i64 8)) 3, type := 3, pos := "read.go:85", after := #[{ on := 8, ground := Go.Ground.data }], guard := none }) (v := ?_) rfl (by kernel_rfl) (by kernel_rfl) (by kernel_rfl) (fun _ _ _ h => h) (Or.inl ⟨by rfl, ?_⟩) ?_
        rotate_left
        · (intro w; go_simp; try with_reducible rfl)
        (try simp only [Act.put]); (try simp only [List.setIfInBounds_toArray]); (try simp only [List.set_cons_succ]); (try simp only [List.set_cons_zero])
        refine wpAny_take (i := 10) (oi := { dst := some 33, op := Go.Op.binOp Go.BinOp.shl 51 (Go.Operand.tmp 29) (Go.Operand.tmp 32) 3, type := 51, pos := "read.go:85", after := #[{ on := 6, ground := Go.Ground.data }, { on := 9, ground := Go.Ground.data }], guard := none }) (v := ?_) rfl (by kernel_rfl) (by kernel_rfl) (by kernel_rfl) (fun _ _ _ h => h) (Or.inl ⟨by rfl, ?_⟩) ?_
        rotate_left
        · (intro w; go_simp; try with_reducible rfl)
        (try simp only [Act.put]); (try simp only [List.setIfInBounds_toArray]); (try simp only [List.set_cons_succ]); (try simp only [List.set_cons_zero])
        refine wpAny_ready (rs := [4]) (by kernel_rfl) (by simp) ?_
        refine AllReady.cons (o := { dst := some 27, op := Go.Op.load 51 (Go.Operand.tmp 26), type := 51, pos := "read.go:85", after := #[{ on := 3, ground := Go.Ground.data }], guard := none }) rfl (fun K hK => ?_) (AllReady.nil)
        · go_simp
          refine hK _ _ ?_
          clear hK K
          (try simp only [Act.put]); (try simp only [List.setIfInBounds_toArray]); (try simp only [List.set_cons_succ]); (try simp only [List.set_cons_zero])
          refine wpAny_take (i := 11) (oi := { dst := some 34, op := Go.Op.binOp Go.BinOp.or 51 (Go.Operand.tmp 27) (Go.Operand.tmp 33) 51, type := 51, pos := "read.go:85", after := #[{ on := 4, ground := Go.Ground.data }, { on := 10, ground := Go.Ground.data }], guard := none }) (v := ?_) rfl (by kernel_rfl) (by kernel_rfl) (by kernel_rfl) (fun _ _ _ h => h) (Or.inl ⟨by rfl, ?_⟩) ?_
          rotate_left
          · (intro w; go_simp; try with_reducible rfl)
          (try simp only [Act.put]); (try simp only [List.setIfInBounds_toArray]); (try simp only [List.set_cons_succ]); (try simp only [List.set_cons_zero])
          refine wpAny_take (i := 12) (oi := { dst := some 35, op := Go.Op.indexAddr 28 (Go.Operand.tmp 23) (Go.Operand.tmp 25), type := 0, pos := "read.go:85", after := #[{ on := 0, ground := Go.Ground.data }, { on := 2, ground := Go.Ground.data }, { on := 0, ground := Go.Ground.phase }, { on := 1, ground := Go.Ground.phase }, { on := 2, ground := Go.Ground.phase }, { on := 3, ground := Go.Ground.phase }, { on := 4, ground := Go.Ground.phase }, { on := 5, ground := Go.Ground.phase }, { on := 6, ground := Go.Ground.phase }, { on := 7, ground := Go.Ground.phase }, { on := 8, ground := Go.Ground.phase }, { on := 9, ground := Go.Ground.phase }, { on := 10, ground := Go.Ground.phase }, { on := 11, ground := Go.Ground.phase }], guard := none }) (v := ?_) rfl (by kernel_rfl) (by kernel_rfl) (by kernel_rfl) (fun _ _ _ h => h) (Or.inl ⟨by rfl, ?_⟩) ?_
          rotate_left
          · (intro w; go_simp; try with_reducible rfl)
          (try simp only [Act.put]); (try simp only [List.setIfInBounds_toArray]); (try simp only [List.set_cons_succ]); (try simp only [List.set_cons_zero])
          refine wpAny_ready (rs := [13]) (by kernel_rfl) (by simp) ?_
          refine AllReady.cons (o := { dst := none, op := Go.Op.store 51 (Go.Operand.tmp 35) (Go.Operand.tmp 34), type := 0, pos := "read.go:85", after := #[{ on := 12, ground := Go.Ground.data }, { on := 11, ground := Go.Ground.data }, { on := 0, ground := Go.Ground.phase }, { on := 1, ground := Go.Ground.phase }, { on := 2, ground := Go.Ground.phase }, { on := 3, ground := Go.Ground.phase }, { on := 4, ground := Go.Ground.phase }, { on := 5, ground := Go.Ground.phase }, { on := 6, ground := Go.Ground.phase }, { on := 7, ground := Go.Ground.phase }, { on := 8, ground := Go.Ground.phase }, { on := 9, ground := Go.Ground.phase }, { on := 10, ground := Go.Ground.phase }, { on := 11, ground := Go.Ground.phase }], guard := none }) rfl (fun K hK => ?_) (AllReady.nil)
          · go_simp
            refine hK _ _ ?_
            clear hK K
            (try simp only [Act.put]); (try simp only [List.setIfInBounds_toArray]); (try simp only [List.set_cons_succ]); (try simp only [List.set_cons_zero])
            refine wpAny_done (by kernel_rfl) ?_ _
            go_wp2_with fail
            go_roundg (8 * N - (k + 1))
            case measure => omega
            case rel => exact ⟨k + 1, by omega, by go_num, F2⟩
    · obtain rfl : k = 8 * N := by omega
      go_wp2_with fail
      go_ret
      exact FF.out _ J.out.1 J.out.2
end Go.Proofs.YtnobafmleellhaaDoor
