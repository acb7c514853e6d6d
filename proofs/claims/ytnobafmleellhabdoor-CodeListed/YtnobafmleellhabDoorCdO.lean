/-
  code: instrs.
-/
import Derived.Test.YtnobafmleellhabDoorCdL
namespace Go.Proofs.YtnobafmleellhabDoor
open Go Go.RowKit Go.Deep Go.Shelf

namespace Cd
def nf (v : Int) : Ch.L8 := num v.toNat
def op1 (x : In) : Ch.L8 := UInt8.ofNat x.w.toNat :: (fs (rx x) x.a x.b).flatMap nf
/-- An instruction that can be written. -/
def wr1 (x : In) : Prop := 1 ≤ x.w ∧ x.w ≤ 33 ∧ ∀ v ∈ fs (rx x) x.a x.b, 0 ≤ v ∧ v ≤ 9223372036854775807
theorem TB.fk {wb : Nat} {w w' : World} {tb : Nat} (h : TB w tb) (k : Fk wb w w') (hn : tb ≠ wb) : TB w' tb := k.bx _ _ _ (by decide) hn h
end Cd
set_option maxRecDepth 100000 in
set_option maxHeartbeats 4000000 in
theorem cins_any {w : World} {wb : Nat} {L : Ch.L8} (h : WS w wb L) (p : Option Addr) (cap : Nat) (l : List Cd.In) (w0 : World) (hw : Below w0.heap.size w0 w) (hb : w0.heap.size ≤ wb) (hL : Cd.LI w0 p l) (hR : ∀ x ∈ l, Cd.wr1 x) (hn : l.length ≤ 9223372036854775807) :
    Calls Tryd.prog 23 #[.pointer (some ⟨wb, 0, none⟩), .slice p l.length cap] w fun e w' => e = .returned (.tuple #[]) ∧ WS w' wb (L ++ (Cd.num l.length ++ l.flatMap Cd.op1)) ∧ Fk wb w w' := by
  obtain ⟨n, hn'⟩ : ∃ n, l.length = n := ⟨_, rfl⟩
  have hni : (n : Int) ≤ 9223372036854775807 := by omega
  have WO := hid (fun W => cwords_any W)
  have LA := hid (fun W => cd_lay W)
  have TH := hid (fun W => cd_there W)
  have W1 := hid h
  have wl := h.lt
  have L0 := hid hL
  have HW := hid hw
  have FT : Hid (∀ k x, l[k]? = some x → _) := fun k x hx => Cd.flat_take Cd.op1 l k x hx
  have FE : Hid ((l.take n).flatMap Cd.op1 = l.flatMap Cd.op1) := by rw [Hid, List.take_of_length_le (by omega)]
  have GX : Hid (∀ i, i < n → ∃ x, l[i]? = some x ∧ Cd.wr1 x) := fun i hi => ⟨_, List.getElem?_eq_getElem (by omega), hR _ (List.getElem_mem _)⟩
  have NU : Hid (∀ W, WS W wb L → _) := fun W hW => cnum_any hW n (by omega)
  rw [hn']
  clear hL hw hR hn h
  go_enter Tryd.func23, Tryd.ntmps23
  go_upto_region 2 with (first
    | (go_at_call 15; refine (WO.out _).mono ?_; rintro e w2 ⟨rfl, hB⟩; obtain ⟨W2, hW, hT, hB2⟩ := LA.out w2; have HQ := hid hW; have T2 := hid hT; have s2 := hB.size; have K2 := hid (Fk.of (below_on hB hB2) (Nat.le_of_lt wl)); have WS2 := hid ((W1.out.on hB).on hB2); clear hB hB2 hW hT WO LA W1)
    | (refine wpList_store_to rfl 55 _ _ rfl w2.heap.size 0 _ rfl rfl (TH.out w2) cd_info cd_one HQ.out ?_; clear TH HQ)
    | (go_at_call 30; with_reducible refine (NU.out _ WS2.out).mono ?_; rintro e w3 ⟨rfl, g1, g2⟩; have WS3 := hid g1; have K3 := hid (K2.out.trans g2); have T3 := hid (T2.out.fk g2 (by omega)); clear g1 g2 NU))
  have tn : w2.heap.size ≠ wb := by omega
  generalize w2.heap.size = tb at *
  have S0 : Hid (WS w3 wb (L ++ Cd.num n ++ (l.take 0).flatMap Cd.op1) ∧ Fk wb w w3 ∧ Cd.TB w3 tb) := ⟨by simpa using WS3.out, K3.out, T3.out⟩
  clear WS2 K2 T2 WS3 K3 T3
  go_wp2_with fail
  go_loopg [16] n (fun m iv wr => ∃ k : Nat, k + m = n ∧ iv = .int .i64 (k : Int) ∧ Hid (WS wr wb (L ++ Cd.num n ++ (l.take k).flatMap Cd.op1) ∧ Fk wb w wr ∧ Cd.TB wr tb))
  case atStart => exact ⟨0, by omega, rfl, S0⟩
  case round =>
    obtain ⟨k, hk, rfl, J⟩ := hrel
    clear S0
    by_cases kl : k < n
    · have kli : (k : Int) < (n : Int) := by omega
      obtain ⟨x, hx, x1, x2, x3⟩ := GX.out k kl
      obtain ⟨b, off, rfl, c0, c1, c2⟩ := L0.out.below (HW.out.trans (J.out.2.1.bel.mono hb)) (Nat.le_refl _) k x hx
      have E := hid (FT.out k x hx)
      obtain ⟨F, hF⟩ : ∃ F, Cd.fs (Cd.rx x) x.a x.b = F := ⟨_, rfl⟩
      have FD := hid (fun W => cflds_any (Cd.rx x) x W)
      have TX : Hid (∀ W (h : Cd.TB W tb), _) := fun W h => Cd.TB.cellx (x := x) h ⟨x1, x2⟩
      have EO : Hid (Cd.op1 x = [UInt8.ofNat x.w.toNat] ++ F.flatMap Cd.nf) := by rw [Hid, Cd.op1, hF]; rfl
      have VB : Hid (∀ j, j < F.length → ∃ v : Nat, F[j]? = some (v : Int) ∧ v ≤ 9223372036854775807) := fun j hj => by
        obtain ⟨v0, v1⟩ := x3 (F[j]) (by rw [hF]; exact List.getElem_mem _)
        exact ⟨F[j].toNat, by rw [List.getElem?_eq_getElem hj]; congr 1; omega, by omega⟩
      rw [hF] at FD
      have FL2 : F.length ≤ 2 := by rw [← hF]; unfold Cd.fs; split <;> split <;> simp
      clear hF x3 hx
      obtain ⟨M, hM⟩ : ∃ M, F.length = M := ⟨_, rfl⟩
      rw [hM] at VB FD FL2
      have M2 : (M : Int) ≤ 2 := by omega
      have HM := hid hM
      clear hM
      have A1 := hid (alloc_b wr (.cells #[.int .i64 x.w, .int .i64 x.a, .int .i64 x.b] 28))
      have Y1 := hid (Bx.new wr 28 #[.int .i64 x.w, .int .i64 x.a, .int .i64 x.b])
      have WS1 := hid (J.out.1.on A1.out)
      have K1 := hid (J.out.2.1.trans (Fk.of A1.out (Nat.le_of_lt J.out.1.lt)))
      have T1 := hid (J.out.2.2.on A1.out)
      have bw : wr.heap.size ≠ wb := by have := J.out.1.lt; omega
      generalize Cd.rx x = r at *
      obtain ⟨xw, xa, xb⟩ := x
      obtain ⟨nm, ra, rb, rt, rp⟩ := r
      simp only at *
      obtain ⟨m, rfl⟩ : ∃ m : Nat, xw = (m : Int) := ⟨xw.toNat, by omega⟩
      rw [Int.toNat_natCast] at TX EO
      have m34 : (m : Int) < 34 := by omega
      have m34n : m < 34 := by omega
      clear J
      go_upto_region 5 with fail
      clear c0 c1 c2
      generalize hbb : wr.heap.size = bb at *
      generalize wr.alloc (.cells #[.int .i64 (m : Int), .int .i64 xa, .int .i64 xb] 28) = w4 at *
      have PU := hid (cput1_any WS1.out (UInt8.ofNat m) (m : Int) (Cd.u8_of (by omega)).symm)
      obtain ⟨y0, y1, y2⟩ := bx3 Y1.out
      go_upto_region 6 with (go_at_call 31; with_reducible refine PU.out.mono ?_; rintro e w5 ⟨rfl, g1, g2⟩; have WS5 := hid g1; have K5 := hid (K1.out.trans g2); have T5 := hid (T1.out.fk g2 tn); have Y5 := hid (g2.bx _ _ _ (by decide) bw Y1.out); clear g1 g2 PU)
      clear y0 y1 y2 WS1 K1 T1 Y1 A1
      have S6 : Hid (∀ W, Below w5.heap.size w5 W → W.cell? ⟨bb, 0, none⟩ = some (.int .i64 (m : Int)) ∧ W.cell? ⟨bb, 1, none⟩ = some (.int .i64 xa) ∧ W.cell? ⟨bb, 2, none⟩ = some (.int .i64 xb) ∧ W.cell? ⟨tb, m * 5, none⟩ = some (.string nm) ∧ W.cell? ⟨tb, m * 5 + 1, none⟩ = some (.int .i64 ra) ∧ W.cell? ⟨tb, m * 5 + 2, none⟩ = some (.int .i64 rb) ∧ W.cell? ⟨tb, m * 5 + 3, none⟩ = some (.int .i64 rt) ∧ W.cell? ⟨tb, m * 5 + 4, none⟩ = some (.int .i64 rp)) := fun W hW => by
        obtain ⟨e0, e1, e2⟩ := bx3 (Y5.out.on hW)
        exact ⟨e0, e1, e2, TX.out W (T5.out.on hW)⟩
      have U0 : Hid (Below w5.heap.size w5 w5.drew) := Below.drew (Below.refl _ _)
      go_region_held3 (fun W => W.cell? ⟨bb, 0, none⟩ = some (.int .i64 (m : Int)) ∧ W.cell? ⟨bb, 1, none⟩ = some (.int .i64 xa) ∧ W.cell? ⟨bb, 2, none⟩ = some (.int .i64 xb) ∧ W.cell? ⟨tb, m * 5, none⟩ = some (.string nm) ∧ W.cell? ⟨tb, m * 5 + 1, none⟩ = some (.int .i64 ra) ∧ W.cell? ⟨tb, m * 5 + 2, none⟩ = some (.int .i64 rb) ∧ W.cell? ⟨tb, m * 5 + 3, none⟩ = some (.int .i64 rt) ∧ W.cell? ⟨tb, m * 5 + 4, none⟩ = some (.int .i64 rp)) (first | (with_reducible exact S6.out _ U1.out) | (with_reducible exact S6.out _ U0.out)) (first
        | (go_at_call 32; with_reducible refine (FD.out _).mono ?_; rintro e w6 ⟨pp, cp, rfl, hf, hg, hB⟩; have U1 := hid (below_on U0.out hB); have FL6 := hid hf; have PG := hid hg; clear hB hf hg))
      all_goals
        have K6 := hid (K5.out.trans (Fk.of U1.out (Nat.le_of_lt WS5.out.lt)))
        have WS6 := hid (WS5.out.on U1.out)
        have T6 := hid (T5.out.on U1.out)
        have PN : Hid (∀ g, pp = some ⟨g, 0, none⟩ → g ≠ wb) := fun g hg => by
          have h1 : w5.heap.size ≤ g := PG.out g hg
          have h2 := WS5.out.lt
          omega
        have FN : Hid ((F.take F.length).flatMap Cd.nf = F.flatMap Cd.nf) := by rw [Hid, List.take_length]
        have FI : Hid (∀ j v, F[j]? = some v → _) := fun j v hv => Cd.flat_take Cd.nf F j v hv
        have S7 : Hid (WS w6 wb (L ++ Cd.num n ++ (l.take k).flatMap Cd.op1 ++ [UInt8.ofNat m] ++ (F.take 0).flatMap Cd.nf) ∧ Fk wb w w6 ∧ Cd.TB w6 tb ∧ Cd.FL w6 pp F) := ⟨by simpa using WS6.out, K6.out, T6.out, FL6.out⟩
        have LE : Hid (L ++ Cd.num n ++ (l.take k).flatMap Cd.op1 ++ [UInt8.ofNat m] ++ F.flatMap Cd.nf = L ++ Cd.num n ++ (l.take (k + 1)).flatMap Cd.op1) := by
          simp only [Hid, E.out, EO.out, List.append_assoc]
        clear K6 WS6 T6 FL6 U0 U1 S6 FD WS5 K5 T5 Y5 PG TX EO E
        rw [HM.out] at FN
        go_wp2_with fail
        go_loopg [33] M (fun m' iv wr => ∃ j : Nat, j + m' = M ∧ iv = .int .i64 (j : Int) ∧ Hid (WS wr wb (L ++ Cd.num n ++ (l.take k).flatMap Cd.op1 ++ [UInt8.ofNat m] ++ (F.take j).flatMap Cd.nf) ∧ Fk wb w wr ∧ Cd.TB wr tb ∧ Cd.FL wr pp F))
        case atStart => exact ⟨0, by omega, rfl, S7⟩
        case round =>
          obtain ⟨j, hj, rfl, J⟩ := hrel
          clear S7
          by_cases jl : j < M
          · have jli : (j : Int) < (M : Int) := by omega
            obtain ⟨v, hv, v1⟩ := VB.out j jl
            have vi : (v : Int) ≤ 9223372036854775807 := by omega
            obtain ⟨g, rfl, cg⟩ := J.out.2.2.2.cell hv
            have E2 := FI.out j _ hv
            have NU := cnum_any J.out.1 v v1
            rw [show Cd.num v = Cd.nf (v : Int) by rw [Cd.nf, Int.toNat_natCast], List.append_assoc _ _ (Cd.nf (v : Int)), ← E2] at NU
            have N1 := hid NU
            have JJ := hid J.out.2
            have gw := PN.out g rfl
            clear NU E2 J hv FI FN LE VB
            go_wp2_with (go_at_call 30; with_reducible refine N1.out.mono ?_; rintro e w7 ⟨rfl, g1, g2⟩; have F7 := hid (And.intro g1 (And.intro (JJ.out.1.trans g2) (And.intro (JJ.out.2.1.fk g2 tn) (Cd.fl_fk JJ.out.2.2 g2 PN.out)))); clear g1 g2 N1 JJ)
            go_roundg (M - (j + 1))
            case measure => omega
            case rel => exact ⟨j + 1, by omega, by go_num, F7⟩
          · have jli : ¬ (j : Int) < (M : Int) := by omega
            obtain rfl : j = M := by omega
            have F7 : Hid (WS wr wb (L ++ Cd.num n ++ (l.take (k + 1)).flatMap Cd.op1) ∧ Fk wb w wr ∧ Cd.TB wr tb) := ⟨by have := J.out.1; rwa [FN.out, LE.out] at this, J.out.2.1, J.out.2.2.1⟩
            clear J FI FN LE VB
            go_wp2_with fail
            go_roundg (n - (k + 1))
            case measure => omega
            case rel => exact ⟨k + 1, by omega, by go_num, F7⟩
    · have kli : ¬ (k : Int) < (n : Int) := by omega
      obtain rfl : k = n := by omega
      have F : Hid (WS wr wb (L ++ (Cd.num k ++ l.flatMap Cd.op1)) ∧ Fk wb w wr) := ⟨by have := J.out.1; rw [FE.out, List.append_assoc] at this; exact this, J.out.2.1⟩
      clear J FE FT GX L0 HW
      go_wp2_with fail
      go_end0
      exact ⟨rfl, F.out⟩
end Go.Proofs.YtnobafmleellhabDoor
