/-
  code: List.
-/
import Derived.Test.YtnobafmleellhabDoorCdS
namespace Go.Proofs.YtnobafmleellhabDoor
open Go Go.RowKit Go.Deep Go.Shelf

namespace Cd
def z0 : In := ⟨0, 0, 0⟩
def lnr (l : List In) (nums : List Int) (strs : List ByteArray) (k : Nat) : Ch.L8 := (List.range k).flatMap fun i => ln i (l.getD i z0) nums strs
def lst (l : List In) (nums : List Int) (strs : List ByteArray) : Ch.L8 := lnr l nums strs l.length
theorem lnr_step {l : List In} {nums : List Int} {strs : List ByteArray} {k : Nat} {x : In} (h : l[k]? = some x) : lnr l nums strs (k + 1) = lnr l nums strs k ++ ln k x nums strs := by
  unfold lnr
  rw [List.range_succ, List.flatMap_append]
  simp [h]
theorem lnr_le (l : List In) (nums : List Int) (strs : List ByteArray) (j d : Nat) : (lnr l nums strs j).length ≤ (lnr l nums strs (j + d)).length := by
  induction d with
  | zero => exact Nat.le_refl _
  | succ d ih =>
    refine Nat.le_trans ih ?_
    unfold lnr
    rw [← Nat.add_assoc, List.range_succ (n := j + d), List.flatMap_append, List.length_append]
    omega
/-- What List tells. -/
def LT (w0 : World) (C : Int) (E : Ch.L8) (e : Ending) (w' : World) : Prop :=
  ∃ v err, e = .returned (.tuple #[.string v, .int .i64 err]) ∧ Below w0.heap.size w0 w' ∧ ((C = 260 ∧ err = 260 ∧ v = ⟨#[]⟩) ∨ (C = 0 ∧ 16777216 < E.length ∧ err = 3 ∧ v = ⟨#[]⟩) ∨ (C = 0 ∧ E.length ≤ 16777216 ∧ err = 0 ∧ v = Ch.tx E))
theorem chk_all (l : List In) (N S : Nat) : ((chk l N S).2.2 = 0 ∧ l.length ≤ 131072 ∧ ∀ i x, l[i]? = some x → rt l.length N S i x = true) ∨ (chk l N S).2.2 = 260 := by
  rcases hts_err l N S with h | ⟨h, _⟩
  · left
    rw [chk_ok h]
    obtain ⟨h1, hb, _⟩ := hts_ok h
    refine ⟨rfl, by omega, fun i x hx => ?_⟩
    have := bad_none hb i x hx
    rwa [Nat.zero_add] at this
  · right
    rw [chk_no h]
end Cd
set_option maxRecDepth 100000 in
set_option maxHeartbeats 8000000 in
theorem clist_any (l : List Cd.In) (nums : List Int) (strs : List ByteArray) (p q r : Option Addr) (cap c2 c3 : Nat) (w : World) (hT : Tab10 w) (hL : Cd.LI w p l) (hQ : Cd.NI w q nums) (hR : TR w r strs) (hU : Cd.U64 nums) (hZ : ∀ s ∈ strs, s.size ≤ 9223372036854775807) (hn : l.length ≤ 9223372036854775807) (hN : nums.length ≤ 9223372036854775807) (hS : strs.length ≤ 9223372036854775807) :
    Calls Tryd.prog 12 #[.agg #[.slice p l.length cap, .slice q nums.length c2, .slice r strs.length c3]] w fun e w' => Cd.LT w (Cd.chk l nums.length strs.length).2.2 (Cd.lst l nums strs) e w' := by
  have B1 := hid (alloc_b w (.cells #[.slice p l.length cap, .slice q nums.length c2, .slice r strs.length c3] 26))
  have X1 := hid (Bx.new w 26 #[.slice p l.length cap, .slice q nums.length c2, .slice r strs.length c3])
  have CH := hid (cchk_any l p q r cap nums.length c2 strs.length c3 _ (hL.on B1.out) hn (by omega) (by omega))
  have CE := Cd.chk_all l nums.length strs.length
  have LN : Hid (∀ wb W L i x, w.heap.size ≤ wb → WS W wb L → Below w.heap.size w W → i < 9223372036854775807 → Cd.rt l.length nums.length strs.length i x = true → _) := fun wb W L i x hb hW hB hi hx => clin_any hW w hB hb hT i l.length cap c2 c3 p q r x nums strs (by omega) hx hn hN hS hQ hR hU hZ
  have LS : Hid (∀ k x, l[k]? = some x → _) := fun k x h => Cd.lnr_step (nums := nums) (strs := strs) h
  have LL : Hid (∀ k, k ≤ l.length → (Cd.lnr l nums strs k).length ≤ (Cd.lst l nums strs).length) := fun k hk => by
    have := Cd.lnr_le l nums strs k (l.length - k)
    rwa [show k + (l.length - k) = l.length by omega] at this
  have LE : Hid (Cd.lnr l nums strs l.length = Cd.lst l nums strs) := rfl
  have L00 : Hid (Cd.lnr l nums strs 0 = []) := rfl
  have GX : Hid (∀ i, i < l.length → ∃ x, l[i]? = some x) := fun i hi => ⟨_, List.getElem?_eq_getElem hi⟩
  have WO := hid (fun W => cwords_any W)
  have LA := hid (fun W => cd_lay W)
  have TH := hid (fun W => cd_there W)
  have L0 := hid hL
  generalize Cd.lst l nums strs = E at *
  obtain ⟨f, hf⟩ : ∃ f, Cd.lnr l nums strs = f := ⟨_, rfl⟩
  rw [hf] at LS LL LE L00
  clear hf
  generalize Cd.chk l nums.length strs.length = C at *
  obtain ⟨C1, C2, C3⟩ := C
  clear hL hQ hR hU hZ hn hN hS hT
  generalize hNl : nums.length = N at *
  generalize hSl : strs.length = S at *
  generalize hnl : l.length = n at *
  clear hNl hSl
  go_enter Tryd.func12, Tryd.ntmps12
  go_upto_region 1 with fail
  generalize w.alloc (.cells #[.slice p n cap, .slice q N c2, .slice r S c3] 26) = w1 at *
  obtain ⟨k0, k1, k2⟩ := bx3 X1.out
  go_upto_region 2 with (go_at_call 6; refine CH.out.mono ?_; rintro e w2 ⟨rfl, hB⟩; have B2 := hid (below_on B1.out hB); have X2 := hid (X1.out.on hB); clear hB CH)
  clear k0 k1 k2 X1 B1
  rcases CE with ⟨h3, n1, hr⟩ | h3
  · have h3' : C3 = 0 := h3
    subst h3'
    have RX := hid hr
    have ni : (n : Int) ≤ 131072 := by have : n ≤ 131072 := n1; omega
    have WN := hid (WS.new w2)
    have B3 := hid (below_on B2.out (alloc_b w2 (.cells #[.slice none 0 0, .bool false] 61)))
    have X3 := hid (X2.out.on (alloc_b w2 (.cells #[.slice none 0 0, .bool false] 61)))
    have sz := B2.out.size
    have xb : w.heap.size ≠ w2.heap.size := by have := X2.out.lt; omega
    clear hr h3 X2 n1
    go_upto_region 5 with fail
    generalize hwb : w2.heap.size = wb at *
    generalize w2.alloc (.cells #[.slice none 0 0, .bool false] 61) = w3 at *
    have wl3 := WN.out.lt
    go_upto_region 6 with (first
      | (go_at_call 15; refine (WO.out _).mono ?_; rintro e w4 ⟨rfl, hB⟩; obtain ⟨W2, hW, hT, hB2⟩ := LA.out w4; have HQ := hid hW; have T5 := hid hT; have s4 := hB.size; have X5 := hid ((X3.out.on hB).on hB2); have W5 := hid ((WN.out.on hB).on hB2); have B5 := hid (below_on (below_on B3.out hB) hB2); clear hB hB2 hW hT WO LA)
      | (refine wpList_store_to rfl 55 _ _ rfl w4.heap.size 0 _ rfl rfl (TH.out w4) cd_info cd_one HQ.out ?_; clear TH HQ))
    have tn : w4.heap.size ≠ wb := by omega
    generalize w4.heap.size = tb at *
    obtain ⟨k0, k1, k2⟩ := bx3 X5.out
    have S0 : Hid (WS W2 wb (f 0) ∧ (f 0).length ≤ 16777216 ∧ Below w.heap.size w W2 ∧ Bx W2 w.heap.size 26 #[.slice p n cap, .slice q N c2, .slice r S c3] ∧ Cd.TB W2 tb) := ⟨by rw [L00.out]; exact W5.out, by rw [L00.out]; simp, B5.out, X5.out, T5.out⟩
    go_wp2_with fail
    clear k0 k1 k2 X5 W5 B5 T5 X3 WN B3 B2
    go_loopg [24] n (fun m iv wr => ∃ k : Nat, k + m = n ∧ iv = .int .i64 (k : Int) ∧ Hid (WS wr wb (f k) ∧ (f k).length ≤ 16777216 ∧ Below w.heap.size w wr ∧ Bx wr w.heap.size 26 #[.slice p n cap, .slice q N c2, .slice r S c3] ∧ Cd.TB wr tb))
    case atStart => exact ⟨0, by omega, rfl, S0⟩
    case round =>
      obtain ⟨k, hk, rfl, J⟩ := hrel
      clear S0
      by_cases kl : k < n
      · have kli : (k : Int) < (n : Int) := by omega
        obtain ⟨x, hx⟩ := GX.out k kl
        obtain ⟨b, off, rfl, c0, c1, c2'⟩ := L0.out.below J.out.2.2.1 (Nat.le_refl _) k x hx
        have E1 := hid (LS.out k x hx)
        have rx1 := RX.out k x hx
        obtain ⟨x1, x2, -⟩ := Cd.ok_ft (Cd.rt_ok rx1).1
        have TX : Hid (∀ W (h : Cd.TB W tb), _) := fun W h => Cd.TB.cellx (x := x) h ⟨x1, x2⟩
        have LK : Hid (∀ W, WS W wb (f k) → Below w.heap.size w W → _) := fun W hW hB => LN.out wb W (f k) k x sz hW hB (by omega) rx1
        rw [← E1.out] at LK
        have A1 := hid (alloc_b wr (.cells #[.int .i64 x.w, .int .i64 x.a, .int .i64 x.b] 28))
        have Y1 := hid (Bx.new wr 28 #[.int .i64 x.w, .int .i64 x.a, .int .i64 x.b])
        have W1 := hid (J.out.1.on A1.out)
        have B1 := hid (below_on J.out.2.2.1 A1.out)
        have X1 := hid (J.out.2.2.2.1.on A1.out)
        have T1 := hid (J.out.2.2.2.2.on A1.out)
        have bw : wr.heap.size ≠ wb := by have := J.out.1.lt; omega
        have LL1 := hid (LL.out (k + 1) (by omega))
        clear hx rx1 E1 J LS LL RX LN GX
        generalize Cd.rx x = rr at *
        obtain ⟨xw, xa, xb'⟩ := x
        obtain ⟨nm, ra, rb, rt, rp⟩ := rr
        simp only at *
        obtain ⟨m, rfl⟩ : ∃ m : Nat, xw = (m : Int) := ⟨xw.toNat, by omega⟩
        rw [Int.toNat_natCast] at TX
        have m34 : (m : Int) < 34 := by omega
        have m34n : m < 34 := by omega
        go_upto_region 9 with fail
        clear c0 c1 c2'
        generalize hbb : wr.heap.size = bb at *
        generalize wr.alloc (.cells #[.int .i64 (m : Int), .int .i64 xa, .int .i64 xb'] 28) = w5 at *
        have S9 : Hid (∀ W, Below w5.heap.size w5 W → W.cell? ⟨bb, 0, none⟩ = some (.int .i64 (m : Int)) ∧ W.cell? ⟨bb, 1, none⟩ = some (.int .i64 xa) ∧ W.cell? ⟨bb, 2, none⟩ = some (.int .i64 xb') ∧ (W.cell? ⟨tb, m * 5, none⟩ = some (.string nm) ∧ W.cell? ⟨tb, m * 5 + 1, none⟩ = some (.int .i64 ra) ∧ W.cell? ⟨tb, m * 5 + 2, none⟩ = some (.int .i64 rb) ∧ W.cell? ⟨tb, m * 5 + 3, none⟩ = some (.int .i64 rt) ∧ W.cell? ⟨tb, m * 5 + 4, none⟩ = some (.int .i64 rp)) ∧ W.cell? ⟨w.heap.size, 0, none⟩ = some (.slice (some ⟨b, off, none⟩) n cap) ∧ W.cell? ⟨w.heap.size, 1, none⟩ = some (.slice q N c2) ∧ W.cell? ⟨w.heap.size, 2, none⟩ = some (.slice r S c3)) := fun W hW => by
          obtain ⟨e0, e1, e2⟩ := bx3 (Y1.out.on hW)
          obtain ⟨f0, f1, f2⟩ := bx3 (X1.out.on hW)
          exact ⟨e0, e1, e2, TX.out W (T1.out.on hW), f0, f1, f2⟩
        have U0 : Hid (Below w5.heap.size w5 w5.drew) := Below.drew (Below.refl _ _)
        have wl5 := W1.out.lt
        go_region_held3 (fun W => W.cell? ⟨bb, 0, none⟩ = some (.int .i64 (m : Int)) ∧ W.cell? ⟨bb, 1, none⟩ = some (.int .i64 xa) ∧ W.cell? ⟨bb, 2, none⟩ = some (.int .i64 xb') ∧ (W.cell? ⟨tb, m * 5, none⟩ = some (.string nm) ∧ W.cell? ⟨tb, m * 5 + 1, none⟩ = some (.int .i64 ra) ∧ W.cell? ⟨tb, m * 5 + 2, none⟩ = some (.int .i64 rb) ∧ W.cell? ⟨tb, m * 5 + 3, none⟩ = some (.int .i64 rt) ∧ W.cell? ⟨tb, m * 5 + 4, none⟩ = some (.int .i64 rp)) ∧ W.cell? ⟨w.heap.size, 0, none⟩ = some (.slice (some ⟨b, off, none⟩) n cap) ∧ W.cell? ⟨w.heap.size, 1, none⟩ = some (.slice q N c2) ∧ W.cell? ⟨w.heap.size, 2, none⟩ = some (.slice r S c3)) (first | (with_reducible exact S9.out _ U0.out) | (with_reducible exact S10)) (first
          | (go_at_call 24; with_reducible refine (LK.out _ (W1.out.on U0.out) (below_on B1.out U0.out)).mono ?_; rintro e w6 ⟨rfl, g1, g2⟩; have k6 := (Fk.of (wb := wb) U0.out (Nat.le_of_lt wl5)).trans g2; have W6 := hid g1; have B6 := hid (Fk.on0 B1.out k6 sz); have X6 := hid (k6.bx _ _ _ (by decide) xb X1.out); have T6 := hid (T1.out.fk k6 tn); have Y6 := hid (k6.bx _ _ _ (by decide) bw Y1.out); have S10 := (show _ ∧ _ ∧ _ ∧ _ ∧ _ ∧ _ ∧ _ from ⟨(bx3 Y6.out).1, (bx3 Y6.out).2.1, (bx3 Y6.out).2.2, TX.out _ T6.out, (bx3 X6.out).1, (bx3 X6.out).2.1, (bx3 X6.out).2.2⟩); clear g1 g2 k6))
        all_goals
          obtain ⟨mv, M, hx6, h1, h2, h5⟩ := W6.out.ex
          obtain ⟨-, c1, -, -⟩ := bx2w hx6
          clear S9 S10 U0 LK W1 B1 X1 T1 A1 Y1 TX Y6
          by_cases hg : 16777216 < (f (k + 1)).length
          · rw [decide_eq_true hg] at c1
            have F : Hid (Cd.LT w 0 E (.returned (.tuple #[.string ⟨#[]⟩, .int .i64 3])) w6) := ⟨_, _, rfl, B6.out, .inr (.inl ⟨rfl, Nat.lt_of_lt_of_le hg LL1.out, rfl, rfl⟩)⟩
            clear W6 B6 X6 T6 hx6 h1 h2 h5 hg LL1
            go_wp2_with fail
            go_ret2
            exact F.out
          · rw [decide_eq_false hg] at c1
            have F : Hid (WS w6 wb (f (k + 1)) ∧ (f (k + 1)).length ≤ 16777216 ∧ Below w.heap.size w w6 ∧ Bx w6 w.heap.size 26 #[.slice (some ⟨b, off, none⟩) n cap, .slice q N c2, .slice r S c3] ∧ Cd.TB w6 tb) := ⟨W6.out, by omega, B6.out, X6.out, T6.out⟩
            clear W6 B6 X6 T6 hx6 h1 h2 h5 hg LL1
            go_wp2_with fail
            go_roundg (n - (k + 1))
            case measure => omega
            case rel => exact ⟨k + 1, by omega, by go_num, F⟩
      · have kli : ¬ (k : Int) < (n : Int) := by omega
        obtain rfl : k = n := by omega
        obtain ⟨mv, M, hx6, h1, h2, h5⟩ := J.out.1.ex
        obtain ⟨c0, -, -, -⟩ := bx2w hx6
        obtain rfl := h5 J.out.2.1
        have CV := h1.conv
        have F : Hid (Cd.LT w 0 E (.returned (.tuple #[.string (Ch.tx (f k)), .int .i64 0])) wr) := ⟨_, _, rfl, J.out.2.2.1, .inr (.inr ⟨rfl, by rw [← LE.out]; exact J.out.2.1, rfl, by rw [← LE.out]⟩)⟩
        clear J LS LL LE RX LN GX hx6 h1 h2 h5
        generalize Ch.tx (f k) = TTX at *
        go_wp2_with fail
        go_ret2
        exact F.out
  · have h3' : C3 = 260 := h3
    subst h3'
    have F : Hid (Cd.LT w 260 E (.returned (.tuple #[.string ⟨#[]⟩, .int .i64 260])) w2) := ⟨_, _, rfl, B2.out, .inl ⟨rfl, rfl, rfl⟩⟩
    clear LN LS LL LE GX X2 h3
    go_wp2_with fail
    go_ret2
    exact F.out
end Go.Proofs.YtnobafmleellhabDoor
