/-
  Texts put together: PoPadN, PoE, RnWdN, RnArg, JUns, RnStN, JText, RnOne, RnOne2, RnOne3.
-/
import Derived.Test.YtiflponlioldmaaGreatDoorRD
import Derived.Test.YtiflponlioldmaaGreatDoorPoD
import Derived.Test.YtiflponlioldmaaGreatDoorRA
import Derived.Test.YtiflponlioldmaaGreatDoorRJ
import Derived.Test.YtiflponlioldmaaGreatDoorFromW
import Derived.Test.YtiflponlioldmaaGreatDoorBlenIs
import Derived.Test.YtiflponlioldmaaGreatDoorRC
import Derived.Test.YtiflponlioldmaaGreatDoorRE
namespace Go.Proofs.YtiflponlioldmaaGreatDoor
open Go Go.RowKit Go.Deep
namespace Po

/-- What is padded. -/
noncomputable def tb (V F P d : Int) : List Int := if Ie.fnt d = true then bd V (Wh.bit F 8) P d else nm (cap V) (Ie.cls d)
theorem ren_pad {V F W P d : Int} (h : renE V F W P = 0) : ren V F W P d = Wh.padT F W (Ie.fnt d) (Wh.sgn F (ng d)) (tb V F P d) := by
  unfold ren tb
  rw [if_pos h]
  by_cases c : Ie.fnt d = true
  · rw [if_pos c, if_pos c, c]
  · rw [if_neg c, if_neg c, show Ie.fnt d = false by simpa using c]
theorem renE_ok {V F W P : Int} (h : renE V F W P = 0) : okV V = true ∧ Wh.chk F W P = 0 := by
  unfold renE at h
  split at h
  · next c => exact ⟨c, h⟩
  · omega
theorem tb_ok {V F P d : Int} (p0 : -1 ≤ P) (p1 : P ≤ 4096) : Wh.By (tb V F P d) ∧ (tb V F P d).length ≤ 20000 := by
  unfold tb
  split
  · next c => exact bd_ok _ c p0 p1
  · exact ⟨nm_by _ _, by have := nm_len (cap V) (Ie.cls d); omega⟩
theorem ren_len {V F W P d : Int} : (ren V F W P d).length ≤ 30000 ∧ Wh.By (ren V F W P d) := by
  by_cases h : renE V F W P = 0
  · obtain ⟨-, b⟩ := renE_ok h
    obtain ⟨f, w, p⟩ := Wh.chk_ok b
    have k := tb_ok (V := V) (F := F) (d := d) p.1 p.2
    have s := Wh.sgn_len F (ng d)
    rw [ren_pad h]
    refine ⟨?_, Wh.padT_by (Wh.sgn_by _ _) k.1⟩
    rw [Wh.padT_len]
    omega
  · unfold ren
    rw [if_neg h]
    exact ⟨by simp, Wh.By.nil⟩

/-- Small letters. -/
def low (x : Int) : Int := if 65 ≤ x ∧ x ≤ 90 then x + 32 else x
theorem low_id {x : Int} (h : ¬ (65 ≤ x ∧ x ≤ 90)) : low x = x := if_neg h
theorem map_id {xs : List Int} (h : ∀ x ∈ xs, ¬ (65 ≤ x ∧ x ≤ 90)) : xs.map low = xs := by
  induction xs with
  | nil => rfl
  | cons x l ih => rw [List.map_cons, low_id (h x (by simp)), ih (fun y hy => h y (by simp [hy]))]
/-- No small letter. -/
def NoS (xs : List Int) : Prop := ∀ x ∈ xs, ¬ (97 ≤ x ∧ x ≤ 122)
theorem NoS.app {a b : List Int} (h : NoS a) (k : NoS b) : NoS (a ++ b) := by
  intro x hx
  rcases List.mem_append.1 hx with q | q
  · exact h x q
  · exact k x q
theorem NoS.digs {a : List Int} (h : Digs a) : NoS a := fun x hx => by have := h x hx; omega
theorem NoS.cons {c : Int} {a : List Int} (h0 : ¬ (97 ≤ c ∧ c ≤ 122)) (h : NoS a) : NoS (c :: a) := by
  intro x hx
  rcases List.mem_cons.1 hx with q | q
  · rw [q]; exact h0
  · exact h x q
theorem NoS.nil : NoS [] := by intro x h; simp at h
end Po
end Go.Proofs.YtiflponlioldmaaGreatDoor

namespace Go.Proofs.YtiflponlioldmaaGreatDoor
open Go Go.RowKit Go.Deep Go.Shelf

def SpcTold (V F W P d : Int) (w : World) (e : Ending) (w' : World) : Prop := e = .returned (.tuple #[.string (strOfNums (Po.spc V F W P d)), .bool (Po.spb F W P d), .int .i64 (Wh.chk F W P)]) ∧ Below w.heap.size w w'
def RenTold (V F W P d : Int) (w : World) (e : Ending) (w' : World) : Prop := e = .returned (.tuple #[.string (strOfNums (Po.ren V F W P d)), .int .i64 (Po.renE V F W P)]) ∧ Below w.heap.size w w'

theorem pad_small {F W P : Int} {z : Bool} {h b : List Int} (hl : h.length + b.length ≤ 16777216) : Wh.padE F W P h b = Wh.chk F W P ∧ Wh.pad F W P z h b = (if Wh.chk F W P = 0 then Wh.padT F W z h b else []) := by
  have e : Wh.padE F W P h b = Wh.chk F W P := by
    unfold Wh.padE
    by_cases c : Wh.chk F W P = 0
    · rw [if_pos c, if_neg (by omega), c]
    · rw [if_neg c]
  exact ⟨e, by rw [Wh.pad, e]⟩

set_option maxRecDepth 100000 in
set_option maxHeartbeats 4000000 in
theorem special_any (V F W P d : Int) (w : World) (v0 : 0 ≤ V) (v1 : V < 256) (h0 : 0 ≤ d) (h1 : d < 18446744073709551616) :
    Calls Tryz.prog 99 #[.agg #[.int .u8 V, .int .i64 F, .int .i64 W, .int .i64 P], .int .u64 d] w fun e w' => SpcTold V F W P d w e w' := by
  have B0 := hid (SB.new w V F W P)
  have SG := hid (fun wk => psign_any V F W P d wk h0 h1)
  have NM := hid (fun wk => pname_any V d wk v0 v1 h0 h1)
  have FN := hid (fun wk => pfin_any d wk h0 h1)
  have sb := Po.sx_by F (Po.ng d)
  have nb := Po.nm_by (Po.cap V) (Ie.cls d)
  have nl := Po.nm_len (Po.cap V) (Ie.cls d)
  have PA : Hid (∀ wk, Calls Tryz.prog 94 #[.agg #[.int .u8 V, .int .i64 F, .int .i64 W, .int .i64 P], .string (strOfNums (Po.sx F (Po.ng d))), .string (strOfNums (Po.nm (Po.cap V) (Ie.cls d))), .bool false] wk fun e w' => e = .returned (.tuple #[.string (strOfNums (if Wh.chk F W P = 0 then Wh.padT F W false (Po.sx F (Po.ng d)) (Po.nm (Po.cap V) (Ie.cls d)) else [])), .int .i64 (Wh.chk F W P)]) ∧ Below wk.heap.size wk w') := by
    intro wk
    refine (pad_any V F W P _ _ false wk sb.1 nb (by omega) (by omega)).mono ?_
    rintro e w' ⟨rfl, k⟩
    obtain ⟨e1, e2⟩ := pad_small (F := F) (W := W) (P := P) (z := false) (h := Po.sx F (Po.ng d)) (b := Po.nm (Po.cap V) (Ie.cls d)) (by omega)
    exact ⟨by rw [e1, e2], k⟩
  have G1 : Hid (∀ w' , Wh.chk F W P ≠ 0 → Below w.heap.size w w' → SpcTold V F W P d w (.returned (.tuple #[.string ⟨#[]⟩, .bool false, .int .i64 (Wh.chk F W P)])) w') := by
    intro w' h k
    refine ⟨?_, k⟩
    rw [Po.spc, if_neg (fun q => h q.1), Po.spb, decide_eq_false h]
    rfl
  have G2 : Hid (∀ w' , Wh.chk F W P = 0 → Ie.fnt d = true → Below w.heap.size w w' → SpcTold V F W P d w (.returned (.tuple #[.string ⟨#[]⟩, .bool false, .int .i64 0])) w') := by
    intro w' h f k
    refine ⟨?_, k⟩
    rw [Po.spc, if_neg (fun q => by rw [f] at q; exact Bool.false_ne_true q.2.symm), Po.spb, f, h]
    rfl
  have G3 : Hid (∀ w' , Wh.chk F W P = 0 → Ie.fnt d = false → Below w.heap.size w w' → SpcTold V F W P d w (.returned (.tuple #[.string (strOfNums (if Wh.chk F W P = 0 then Wh.padT F W false (Po.sx F (Po.ng d)) (Po.nm (Po.cap V) (Ie.cls d)) else [])), .bool true, .int .i64 0])) w') := by
    intro w' h f k
    refine ⟨?_, k⟩
    obtain ⟨⟨f0, f1⟩, -, -⟩ := Wh.chk_ok h
    rw [if_pos h, Po.spc, if_pos ⟨h, f⟩, Po.spb, f, h, Po.sx_is _ f0 f1]
    rfl
  generalize (if Wh.chk F W P = 0 then Wh.padT F W false (Po.sx F (Po.ng d)) (Po.nm (Po.cap V) (Ie.cls d)) else []) = T at *
  generalize Po.sx F (Po.ng d) = SX at *
  generalize Po.nm (Po.cap V) (Ie.cls d) = NX at *
  clear v0 v1 h0 h1 sb nb nl
  generalize Wh.chk F W P = E at *
  generalize Ie.fnt d = fd at *
  go_enter Tryz.func99, Tryz.ntmps99
  go_upto_region 1 with fail
  have T1 := hid B0.out.drew
  go_region_held3 (fun wx => wx.cell? ⟨w.heap.size, 0, none⟩ = some (.int .u8 V) ∧ wx.cell? ⟨w.heap.size, 1, none⟩ = some (.int .i64 F) ∧ wx.cell? ⟨w.heap.size, 2, none⟩ = some (.int .i64 W) ∧ wx.cell? ⟨w.heap.size, 3, none⟩ = some (.int .i64 P)) (first | (with_reducible exact T4.out.flat) | (with_reducible exact T3.out.flat) | (with_reducible exact T2.out.flat) | (with_reducible exact T1.out.flat)) (first
    | (go_at_call 102; with_reducible refine (SG.out _).mono ?_; rintro e wa ⟨rfl, hB⟩; have T2 := hid (T1.out.on hB); clear hB)
    | (go_at_call 149; with_reducible refine (NM.out _).mono ?_; rintro e wb ⟨rfl, hB⟩; have T3 := hid (T2.out.on hB); clear hB)
    | (go_at_call 94; with_reducible refine (PA.out _).mono ?_; rintro e wc ⟨rfl, hB⟩; have T4 := hid (T3.out.on hB); clear hB))
  by_cases hE : E = 0
  · subst hE
    cases fd with
    | true =>
      have R := hid (G2.out wc rfl rfl T4.out.bel)
      clear G1 G2 G3
      go_wp2_with (go_at_call 150; refine (FN.out _).mono ?_; rintro e w' ⟨rfl, hw⟩; rw [hw]; clear hw w')
      go_ret3
      exact R.out
    | false =>
      have R := hid (G3.out wc rfl rfl T4.out.bel)
      clear G1 G2 G3
      go_wp2_with (go_at_call 150; refine (FN.out _).mono ?_; rintro e w' ⟨rfl, hw⟩; rw [hw]; clear hw w')
      go_ret3
      exact R.out
  · have hne : (E == 0) = false := by simpa using hE
    have hne2 : (E != 0) = true := by simpa using hE
    have R := hid (G1.out wc hE T4.out.bel)
    clear G1 G2 G3 hE
    go_wp2_with fail
    go_ret3
    exact R.out

set_option maxRecDepth 100000 in
set_option maxHeartbeats 4000000 in
theorem render_any (V F W P d : Int) (w : World) (hT : Tab w) (v0 : 0 ≤ V) (v1 : V < 256) (h0 : 0 ≤ d) (h1 : d < 18446744073709551616) :
    Calls Tryz.prog 56 #[.agg #[.int .u8 V, .int .i64 F, .int .i64 W, .int .i64 P], .int .u64 d] w fun e w' => RenTold V F W P d w e w' := by
  have B0 := hid (SB.new w V F W P)
  have IX := hid (fun w => Any.strings_IndexByte idxLays ⟨#[101, 69, 102, 70, 103, 71]⟩ V w)
  have OK := ok_ix V v0 v1
  obtain ⟨ix, hix⟩ : ∃ ix, Lib.indexByte (⟨#[101, 69, 102, 70, 103, 71]⟩ : ByteArray).data.toList V.toNat.toUInt8 = ix := ⟨_, rfl⟩
  rw [hix] at IX OK
  clear hix
  by_cases hV : Po.okV V = true
  · rw [hV] at OK
    have ix0 : ¬ ix < 0 := by simpa using OK
    have hR : Po.renE V F W P = Wh.chk F W P := by rw [Po.renE, if_pos hV]
    have SP := hid (fun wk => special_any V F W P d wk v0 v1 h0 h1)
    by_cases hc : Wh.chk F W P = 0
    · obtain ⟨⟨f0, f1⟩, -, ⟨p0, p1⟩⟩ := Wh.chk_ok hc
      by_cases hf : Ie.fnt d = true
      · have sp1 : Po.spb F W P d = false := by rw [Po.spb, hf]; simp
        have SG : Hid (∀ wk, Calls Tryz.prog 102 #[.agg #[.int .u8 V, .int .i64 F, .int .i64 W, .int .i64 P], .int .u64 d] wk fun e w' => e = .returned (.string (strOfNums (Wh.sgn F (Po.ng d)))) ∧ Below wk.heap.size wk w') := by
          intro wk
          have q := psign_any V F W P d wk h0 h1
          rw [Po.sx_is _ f0 f1] at q
          exact q
        have TB : Hid (∀ wk, Below w.heap.size w wk → Tab wk) := fun wk k => hT.below k
        have BO := hid (fun wk (k : Tab wk) => pbody_any V F W P d wk k v0 v1 f0 f1 p0 p1 h0 h1 hf)
        obtain ⟨bb, bl⟩ := Po.bd_ok (V := V) (P := P) (d := d) (Wh.bit F 8) hf p0 p1
        have sl := Wh.sgn_len F (Po.ng d)
        have PA : Hid (∀ wk, Calls Tryz.prog 94 #[.agg #[.int .u8 V, .int .i64 F, .int .i64 W, .int .i64 P], .string (strOfNums (Wh.sgn F (Po.ng d))), .string (strOfNums (Po.bd V (Wh.bit F 8) P d)), .bool true] wk fun e w' => e = .returned (.tuple #[.string (strOfNums (Po.ren V F W P d)), .int .i64 0]) ∧ Below wk.heap.size wk w') := by
          intro wk
          refine (pad_any V F W P _ _ true wk (Wh.sgn_by _ _) bb (by omega) (by omega)).mono ?_
          rintro e w' ⟨rfl, k⟩
          obtain ⟨e1, e2⟩ := pad_small (F := F) (W := W) (P := P) (z := true) (h := Wh.sgn F (Po.ng d)) (b := Po.bd V (Wh.bit F 8) P d) (by omega)
          refine ⟨?_, k⟩
          rw [e1, e2, hc, if_pos rfl, Po.ren, hR, if_pos hc, if_pos hf]
        have G : Hid (∀ w', Below w.heap.size w w' → RenTold V F W P d w (.returned (.tuple #[.string (strOfNums (Po.ren V F W P d)), .int .i64 0])) w') := fun w' k => ⟨by rw [hR, hc], k⟩
        unfold SpcTold at SP
        rw [sp1, hc] at SP
        clear hT v0 v1 h0 h1 hV OK hR hc hf f0 f1 p0 p1 bb bl sl sp1
        generalize Po.spc V F W P d = SC at *
        generalize Po.ren V F W P d = RN at *
        generalize Po.bd V (Wh.bit F 8) P d = BD' at *
        generalize Wh.sgn F (Po.ng d) = SN at *
        go_enter Tryz.func56, Tryz.ntmps56
        go_wp2_with (go_at_call 54; refine (IX.out _).mono ?_; rintro e w2 ⟨rfl, rfl⟩)
        with_reducible refine (SP.out _).mono ?_
        rintro e w1 ⟨rfl, b1⟩
        have B1 := hid (B0.out.on b1)
        clear b1 B0 SP IX
        obtain ⟨c0, c1, c2, c3⟩ := B1.out.flat
        go_upto_region 6 with fail
        clear c0 c1 c2 c3
        have T1 := hid B1.out.drew
        go_region_held3 (fun wx => wx.cell? ⟨w.heap.size, 0, none⟩ = some (.int .u8 V) ∧ wx.cell? ⟨w.heap.size, 1, none⟩ = some (.int .i64 F) ∧ wx.cell? ⟨w.heap.size, 2, none⟩ = some (.int .i64 W) ∧ wx.cell? ⟨w.heap.size, 3, none⟩ = some (.int .i64 P)) (first | (with_reducible exact T4.out.flat) | (with_reducible exact T3.out.flat) | (with_reducible exact T2.out.flat) | (with_reducible exact T1.out.flat)) (first
          | (go_at_call 102; with_reducible refine (SG.out _).mono ?_; rintro e wa ⟨rfl, hB⟩; have T2 := hid (T1.out.on hB); have K2 := hid (TB.out _ T2.out.bel); clear hB)
          | (go_at_call 103; with_reducible refine (BO.out _ K2.out).mono ?_; rintro e wb ⟨rfl, hB⟩; have T3 := hid (T2.out.on hB); clear hB)
          | (go_at_call 94; with_reducible refine (PA.out _).mono ?_; rintro e wc ⟨rfl, hB⟩; have T4 := hid (T3.out.on hB); clear hB))
        go_wp2_with fail
        go_ret2
        exact G.out _ T4.out.bel
      · have hf' : Ie.fnt d = false := by simpa using hf
        have sp1 : Po.spb F W P d = true := by rw [Po.spb, hf', hc]; rfl
        have sp2 : Po.spc V F W P d = Po.ren V F W P d := by rw [Po.spc, if_pos ⟨hc, hf'⟩, Po.ren, hR, if_pos hc, if_neg hf]
        have G : Hid (∀ w', Below w.heap.size w w' → RenTold V F W P d w (.returned (.tuple #[.string (strOfNums (Po.ren V F W P d)), .int .i64 0])) w') := fun w' k => ⟨by rw [hR, hc], k⟩
        unfold SpcTold at SP
        rw [sp1, sp2, hc] at SP
        clear hT v0 v1 h0 h1 hV OK hR hc hf hf' f0 f1 p0 p1 sp1 sp2
        generalize Po.ren V F W P d = RN at *
        go_enter Tryz.func56, Tryz.ntmps56
        go_wp2_with (go_at_call 54; refine (IX.out _).mono ?_; rintro e w2 ⟨rfl, rfl⟩)
        with_reducible refine (SP.out _).mono ?_
        rintro e w1 ⟨rfl, b1⟩
        have R := hid (G.out _ (B0.out.on b1).bel)
        clear b1 B0 SP IX G
        go_wp2_with fail
        go_ret2
        exact R.out
    · have sp1 : Po.spb F W P d = false := by rw [Po.spb, decide_eq_false hc]; rfl
      have sp2 : Po.spc V F W P d = Po.ren V F W P d := by rw [Po.spc, if_neg (fun q => hc q.1), Po.ren, hR, if_neg hc]
      have G : Hid (∀ w', Below w.heap.size w w' → RenTold V F W P d w (.returned (.tuple #[.string (strOfNums (Po.ren V F W P d)), .int .i64 (Wh.chk F W P)])) w') := fun w' k => ⟨by rw [hR], k⟩
      unfold SpcTold at SP
      rw [sp1, sp2] at SP
      have hne : (Wh.chk F W P == 0) = false := by simpa using hc
      have hne2 : (Wh.chk F W P != 0) = true := by simpa using hc
      clear hT v0 v1 h0 h1 hV OK hR hc sp1 sp2
      generalize Po.ren V F W P d = RN at *
      generalize Wh.chk F W P = E at *
      go_enter Tryz.func56, Tryz.ntmps56
      go_wp2_with (go_at_call 54; refine (IX.out _).mono ?_; rintro e w2 ⟨rfl, rfl⟩)
      with_reducible refine (SP.out _).mono ?_
      rintro e w1 ⟨rfl, b1⟩
      have R := hid (G.out _ (B0.out.on b1).bel)
      clear b1 B0 SP IX G
      go_wp2_with fail
      go_ret2
      exact R.out
  · have hV' : Po.okV V = false := by simpa using hV
    rw [hV'] at OK
    have ix0 : ix < 0 := by simpa using OK
    have hR : Po.renE V F W P = 140 := by rw [Po.renE, if_neg hV]
    have G : Hid (∀ w', Below w.heap.size w w' → RenTold V F W P d w (.returned (.tuple #[.string ⟨#[]⟩, .int .i64 140])) w') := fun w' k => ⟨by rw [Po.ren, hR, if_neg (by decide)]; rfl, k⟩
    have R := hid (G.out _ B0.out.bel)
    clear hT v0 v1 h0 h1 hV hV' OK hR G
    go_enter Tryz.func56, Tryz.ntmps56
    go_wp2_with (go_at_call 54; refine (IX.out _).mono ?_; rintro e w2 ⟨rfl, rfl⟩)
    go_ret2
    exact R.out
end Go.Proofs.YtiflponlioldmaaGreatDoor

namespace Go.Proofs.YtiflponlioldmaaGreatDoor
open Go
namespace Rn

end Rn
end Go.Proofs.YtiflponlioldmaaGreatDoor

namespace Go.Proofs.YtiflponlioldmaaGreatDoor
open Go Go.RowKit Go.Deep

theorem acell_below {B : Nat} {w w' : World} {a : Addr} {v : Value} (h : w.cell? a = some v) (k : Below B w w') (hb : a.block < B) : w'.cell? a = some v := by
  rw [← h]; exact k.cell hb
def AgW (a : Rn.Ag) : Prop := (∀ x ∈ a.s, 0 ≤ x ∧ x < 256) ∧ (0 ≤ a.n ∧ a.n < 18446744073709551616) ∧ a.s.length ≤ 140737488351232
def ACells (w : World) (b o : Nat) (a : Rn.Ag) : Prop := w.cell? ⟨b, o, none⟩ = some (.bool a.x) ∧ w.cell? ⟨b, o + 1, none⟩ = some (.int .u64 a.n) ∧ w.cell? ⟨b, o + 2, none⟩ = some (.string (strOfNums a.s))
def LA (w : World) (p : Option Addr) (A : List Rn.Ag) : Prop := A = [] ∨ ∃ b off, p = some ⟨b, off, none⟩ ∧ ∀ i a, A[i]? = some a → ACells w b (off + i * 3) a
theorem ACells.below {w w' : World} {b o : Nat} {a : Rn.Ag} (h : ACells w b o a) (k : Below w.heap.size w w') : ACells w' b o a := by
  obtain ⟨c0, c1, c2⟩ := h
  exact ⟨acell_below c0 k (cell_lt c0), acell_below c1 k (cell_lt c1), acell_below c2 k (cell_lt c2)⟩
theorem LA.below {w w' : World} {p : Option Addr} {A : List Rn.Ag} (h : LA w p A) (k : Below w.heap.size w w') : LA w' p A := by
  rcases h with h | ⟨b, off, e, h⟩
  · exact .inl h
  · exact .inr ⟨b, off, e, fun i a hi => (h i a hi).below k⟩
/-- The arguments as a value. -/
def AgV (w : World) (v : Value) (A : List Rn.Ag) : Prop := ∃ p cap, v = .slice p A.length cap ∧ A.length ≤ cap ∧ LA w p A
theorem AgV.below {w w' : World} {v : Value} {A : List Rn.Ag} (h : AgV w v A) (k : Below w.heap.size w w') : AgV w' v A := by
  obtain ⟨p, cap, e, l, h⟩ := h
  exact ⟨p, cap, e, l, h.below k⟩
/-- The first one. -/
theorem LA.head {w : World} {p : Option Addr} {a : Rn.Ag} {A : List Rn.Ag} (h : LA w p (a :: A)) : ∃ b off, p = some ⟨b, off, none⟩ ∧ ACells w b off a := by
  rcases h with h | ⟨b, off, e, h⟩
  · simp at h
  · exact ⟨b, off, e, by have := h 0 a rfl; rwa [Nat.zero_mul, Nat.add_zero] at this⟩
/-- The others. -/
theorem LA.tail {w : World} {b off : Nat} {a : Rn.Ag} {A : List Rn.Ag} (h : LA w (some ⟨b, off, none⟩) (a :: A)) : LA w (some ⟨b, off + 3, none⟩) A := by
  rcases h with h | ⟨b', off', e, h⟩
  · simp at h
  · simp only [Option.some.injEq, Addr.mk.injEq] at e
    obtain ⟨rfl, rfl, _⟩ := e
    refine .inr ⟨b, off + 3, rfl, fun i x hi => ?_⟩
    have := h (i + 1) x (by simpa using hi)
    rwa [show off + (i + 1) * 3 = off + 3 + i * 3 by omega] at this
/-- A part. -/
theorem LA.take {w : World} {p : Option Addr} {A : List Rn.Ag} (h : LA w p A) (k : Nat) : LA w p (A.take k) := by
  rcases h with h | ⟨b, off, e, h⟩
  · left; rw [h]; simp
  · refine .inr ⟨b, off, e, fun i a hi => h i a ?_⟩
    rw [List.getElem?_take] at hi
    split at hi
    · exact hi
    · simp at hi
theorem LA.drop {w : World} {b off : Nat} {A : List Rn.Ag} (h : LA w (some ⟨b, off, none⟩) A) (k : Nat) : LA w (some ⟨b, off + 3 * k, none⟩) (A.drop k) := by
  rcases h with h | ⟨b', off', e, h⟩
  · left; rw [h]; simp
  · simp only [Option.some.injEq, Addr.mk.injEq] at e
    obtain ⟨rfl, rfl, _⟩ := e
    refine .inr ⟨b, off + 3 * k, rfl, fun i x hi => ?_⟩
    have := h (k + i) x (by rwa [List.getElem?_drop] at hi)
    rwa [show off + (k + i) * 3 = off + 3 * k + i * 3 by omega] at this
theorem LA.nil (w : World) (p : Option Addr) : LA w p [] := .inl rfl
end Go.Proofs.YtiflponlioldmaaGreatDoor

namespace Go.Proofs.YtiflponlioldmaaGreatDoor
open Go Go.RowKit Go.Deep Go.Shelf

theorem val_one (u : Int) : Nm.val [u] = u := by simp [Nm.val]
theorem dig_u (B : Int) (up : Bool) (u : Int) (h0 : 0 ≤ u) (h1 : u < 18446744073709551616) (hB : 2 ≤ B) (h36 : B ≤ 36) : (Wh.dig B up u).length ≤ 262144 := by
  have q := (dig_nil B up [u] (limb_one ⟨h0, h1⟩) (Nat.le_trans (Nm.tsize_le _) (by simp)) hB h36).2
  rw [val_one] at q
  exact q
theorem base_bd (V : Int) : 2 ≤ Wh.base V ∧ Wh.base V ≤ 36 := by
  unfold Wh.base
  split
  · omega
  · split <;> omega

/-- The digits of a uint64, in a base. -/
theorem digits_u (r : Option Addr) (os : List Int) (u B : Int) (up : Bool) (b : Nat) (w : World) (h1 : u < 18446744073709551616) (ha : Ans b w r os u) (hB : 2 ≤ B) (h36 : B ≤ 36) :
    Calls Tryz.prog 151 #[.slice r (List.length os) (List.length os), .int .i64 B, .bool up] w fun e w' => e = .returned (.tuple #[.string (strOfNums (Wh.dig B up u)), .int .i64 0]) ∧ Below w.heap.size w w' := by
  have hz : Nm.Limbs os := ha.2.1
  have hv : Nm.val os = u := ha.2.2.2.1
  have ts : Nm.tsize os ≤ 1 := (Nm.tsize_le_iff hz 1).2 (by rw [hv]; exact h1)
  have tl := ha.2.2.1
  have q := digitsOf_any r os.length os.length os B up w (ha.arg (by omega)) hB h36
  rw [if_neg (by omega), if_neg (by omega), hv] at q
  exact q

set_option maxRecDepth 100000 in
theorem unsignedDigits_any (V u : Int) (w : World) (h0 : 0 ≤ u) (h1 : u < 18446744073709551616) :
    Calls Tryz.prog 154 #[.int .u8 V, .int .u64 u] w fun e w' => e = .returned (.tuple #[.string (strOfNums (Wh.dig (Wh.base V) (decide (V = 88)) u)), .int .i64 0]) ∧ Below w.heap.size w w' := by
  have FU := hid (fromUint_any u w h0 h1)
  have DU := hid (fun r os B up W' ha hB h36 => digits_u r os u B up w.heap.size W' h1 ha hB h36)
  clear h0 h1
  by_cases v1 : V = 88
  · subst v1
    rw [show Wh.base 88 = 16 from rfl, show decide ((88 : Int) = 88) = true from rfl]
    go_enter Tryz.func154, Tryz.ntmps154
    go_wp2_with fail
    with_reducible refine FU.out.mono ?_
    rintro e w1 ⟨r, os, rfl, A1, b1⟩
    have D1 := hid (DU.out r os 16 true w1 A1 (by omega) (by omega))
    have B1 := hid b1
    clear A1 b1 FU DU
    go_wp2_with fail
    with_reducible refine D1.out.mono ?_
    rintro e w2 ⟨rfl, b2⟩
    have B2 := hid (below_on B1.out b2)
    clear b2 D1
    go_wp2_with fail
    go_ret2
    exact ⟨rfl, B2.out⟩
  by_cases v2 : V = 120
  · subst v2
    rw [show Wh.base 120 = 16 from rfl, show decide ((120 : Int) = 88) = false from rfl]
    go_enter Tryz.func154, Tryz.ntmps154
    go_wp2_with fail
    with_reducible refine FU.out.mono ?_
    rintro e w1 ⟨r, os, rfl, A1, b1⟩
    have D1 := hid (DU.out r os 16 false w1 A1 (by omega) (by omega))
    have B1 := hid b1
    clear A1 b1 FU DU
    go_wp2_with fail
    with_reducible refine D1.out.mono ?_
    rintro e w2 ⟨rfl, b2⟩
    have B2 := hid (below_on B1.out b2)
    clear b2 D1
    go_wp2_with fail
    go_ret2
    exact ⟨rfl, B2.out⟩
  by_cases v3 : V = 111
  · subst v3
    rw [show Wh.base 111 = 8 from rfl, show decide ((111 : Int) = 88) = false from rfl]
    go_enter Tryz.func154, Tryz.ntmps154
    go_wp2_with fail
    with_reducible refine FU.out.mono ?_
    rintro e w1 ⟨r, os, rfl, A1, b1⟩
    have D1 := hid (DU.out r os 8 false w1 A1 (by omega) (by omega))
    have B1 := hid b1
    clear A1 b1 FU DU
    go_wp2_with fail
    with_reducible refine D1.out.mono ?_
    rintro e w2 ⟨rfl, b2⟩
    have B2 := hid (below_on B1.out b2)
    clear b2 D1
    go_wp2_with fail
    go_ret2
    exact ⟨rfl, B2.out⟩
  have e1 : Wh.base V = 10 := by rw [Wh.base, if_neg v3, if_neg (by omega)]
  rw [e1, decide_eq_false v1]
  have u1 : (V == 88) = false := by simpa using v1
  have u2 : (V == 120) = false := by simpa using v2
  have u3 : (V == 111) = false := by simpa using v3
  clear v1 v2 v3 e1
  go_enter Tryz.func154, Tryz.ntmps154
  go_wp2_with fail
  with_reducible refine FU.out.mono ?_
  rintro e w1 ⟨r, os, rfl, A1, b1⟩
  have D1 := hid (DU.out r os 10 false w1 A1 (by omega) (by omega))
  have B1 := hid b1
  clear A1 b1 FU DU
  go_wp2_with fail
  with_reducible refine D1.out.mono ?_
  rintro e w2 ⟨rfl, b2⟩
  have B2 := hid (below_on B1.out b2)
  clear b2 D1
  go_wp2_with fail
  go_ret2
  exact ⟨rfl, B2.out⟩

theorem prefix_zero (b : List Int) (hb : Wh.By b) : Lib.hasPrefix (strOfNums b).data.toList (⟨#[48]⟩ : ByteArray).data.toList = decide (b.getD 0 0 = 48) := by
  rw [strOfNums_data, Lib.hasPrefix]
  cases b with
  | nil => rfl
  | cons x l =>
    have hx := hb x (by simp)
    simp only [List.map_cons, List.getD_cons_zero, List.isPrefixOf, Bool.and_true]
    by_cases h : x = 48
    · subst h; rfl
    · rw [decide_eq_false h, beq_eq_false_iff_ne]
      intro c
      have : (48 : UInt8).toNat = (UInt8.ofNat x.toNat).toNat := by rw [← c]
      rw [UInt8.toNat_ofNat_of_lt' (by show x.toNat < 256; omega)] at this
      have e48 : (48 : UInt8).toNat = 48 := rfl
      omega

/-- What marked tells. -/
def mkH (V u : Int) (b : List Int) : List Int := if V = 111 ∧ b.getD 0 0 ≠ 48 then [] else if V = 120 ∧ u ≠ 0 then [48, 120] else if V = 88 ∧ u ≠ 0 then [48, 88] else []
def mkB (V : Int) (b : List Int) : List Int := if V = 111 ∧ b.getD 0 0 ≠ 48 then 48 :: b else b
theorem ret_ss {a b c d : ByteArray} (h : a = b) (k : c = d) : Ending.returned (.tuple #[.string a, .string c]) = .returned (.tuple #[.string b, .string d]) := by rw [h, k]

set_option maxRecDepth 100000 in
theorem marked_any (V u : Int) (b : List Int) (w : World) (hb : Wh.By b) (hl : b.length ≤ 270000) :
    Calls Tryz.prog 155 #[.int .u8 V, .string (strOfNums b), .int .u64 u] w fun e w' => e = .returned (.tuple #[.string (strOfNums (mkH V u b)), .string (strOfNums (mkB V b))]) ∧ Below w.heap.size w w' := by
  have HP := hid (fun W' => Any.strings_HasPrefix { repLays with } (strOfNums b) ⟨#[48]⟩ W')
  have PZ := prefix_zero b hb
  have sz : (strOfNums b).size = b.length := strOfNums_size b
  have l2 : (b.length : Int) ≤ 270000 := by omega
  have AP : Hid (⟨#[48]⟩ ++ strOfNums b = strOfNums (48 :: b)) := by
    have q := str_app (a := [48]) (b := b) (by intro x hx; simp at hx; omega) hb
    exact q
  have BR := hid (Below.refl w.heap.size w)
  by_cases v1 : V = 111
  · subst v1
    by_cases hz : b.getD 0 0 = 48
    · have e1 : strOfNums (mkH 111 u b) = ⟨#[]⟩ := by rw [mkH, if_neg (fun q => q.2 hz), if_neg (by omega), if_neg (by omega)]; rfl
      have e2 : mkB 111 b = b := if_neg (fun q => q.2 hz)
      rw [e1, e2]
      rw [decide_eq_true hz] at PZ
      rw [PZ] at HP
      clear hb hl hz PZ e1 e2 AP
      go_enter Tryz.func155, Tryz.ntmps155
      go_wp2_with (go_at_call 204; refine (HP.out _).mono ?_; rintro e w2 ⟨rfl, rfl⟩)
      go_ret2
      exact ⟨rfl, BR.out⟩
    · have e1 : strOfNums (mkH 111 u b) = ⟨#[]⟩ := by rw [mkH, if_pos ⟨rfl, hz⟩]; rfl
      have e2 : mkB 111 b = 48 :: b := if_pos ⟨rfl, hz⟩
      rw [e1, e2]
      rw [decide_eq_false hz] at PZ
      rw [PZ] at HP
      clear hb hl hz PZ e1 e2
      go_enter Tryz.func155, Tryz.ntmps155
      go_wp2_with (go_at_call 204; refine (HP.out _).mono ?_; rintro e w2 ⟨rfl, rfl⟩)
      go_ret2
      exact ⟨ret_ss rfl AP.out, BR.out⟩
  have u1 : (V == 111) = false := by simpa using v1
  have e2 : mkB V b = b := if_neg (fun q => v1 q.1)
  rw [e2]
  clear HP PZ AP hb hl e2
  by_cases u0 : u = 0
  · have e1 : strOfNums (mkH V u b) = ⟨#[]⟩ := by rw [mkH, if_neg (fun q => v1 q.1), if_neg (fun q => q.2 u0), if_neg (fun q => q.2 u0)]; rfl
    rw [e1]
    subst u0
    clear v1 e1
    by_cases v2 : V = 120
    · subst v2
      go_enter Tryz.func155, Tryz.ntmps155
      go_wp2_with fail
      go_ret2
      exact ⟨rfl, BR.out⟩
    · have u2 : (V == 120) = false := by simpa using v2
      clear v2
      by_cases v3 : V = 88
      · subst v3
        go_enter Tryz.func155, Tryz.ntmps155
        go_wp2_with fail
        go_ret2
        exact ⟨rfl, BR.out⟩
      · have u3 : (V == 88) = false := by simpa using v3
        clear v3
        go_enter Tryz.func155, Tryz.ntmps155
        go_wp2_with fail
        go_ret2
        exact ⟨rfl, BR.out⟩
  · have n0 : (u == 0) = false := by simpa using u0
    have n1 : (u != 0) = true := by simpa using u0
    by_cases v2 : V = 120
    · have e1 : strOfNums (mkH V u b) = ⟨#[48, 120]⟩ := by rw [mkH, if_neg (fun q => v1 q.1), if_pos ⟨v2, u0⟩]; rfl
      rw [e1]
      subst v2
      clear v1 e1 u0 u1
      go_enter Tryz.func155, Tryz.ntmps155
      go_wp2_with fail
      go_ret2
      exact ⟨rfl, BR.out⟩
    · by_cases v3 : V = 88
      · have e1 : strOfNums (mkH V u b) = ⟨#[48, 88]⟩ := by rw [mkH, if_neg (fun q => v1 q.1), if_neg (fun q => v2 q.1), if_pos ⟨v3, u0⟩]; rfl
        rw [e1]
        subst v3
        clear v1 v2 e1 u0 u1
        go_enter Tryz.func155, Tryz.ntmps155
        go_wp2_with fail
        go_ret2
        exact ⟨rfl, BR.out⟩
      · have e1 : strOfNums (mkH V u b) = ⟨#[]⟩ := by rw [mkH, if_neg (fun q => v1 q.1), if_neg (fun q => v2 q.1), if_neg (fun q => v3 q.1)]; rfl
        rw [e1]
        have u2 : (V == 120) = false := by simpa using v2
        have u3 : (V == 88) = false := by simpa using v3
        clear v1 v2 v3 e1 u0
        go_enter Tryz.func155, Tryz.ntmps155
        go_wp2_with fail
        go_ret2
        exact ⟨rfl, BR.out⟩

def UnsTold (V F W P u : Int) (w : World) (e : Ending) (w' : World) : Prop := e = .returned (.tuple #[.string (strOfNums (Wh.uns V F W P u)), .int .i64 (Wh.unsE V F W P)]) ∧ Below w.heap.size w w'

set_option maxRecDepth 100000 in
set_option maxHeartbeats 2000000 in
theorem unsigned_any (V F W P u : Int) (w : World) (h0 : 0 ≤ V) (h1 : V < 256) (u0 : 0 ≤ u) (u1 : u < 18446744073709551616) :
    Calls Tryz.prog 101 #[.agg #[.int .u8 V, .int .i64 F, .int .i64 W, .int .i64 P], .int .u64 u] w fun e w' => UnsTold V F W P u w e w' := by
  have B0 := hid (SB.new w V F W P)
  have CV := hid (fun W' => checkVerb_any V F W P ⟨#[111, 117, 120, 88]⟩ _ W' (vb_o V h0 h1))
  by_cases hV : V = 111 ∨ V = 117 ∨ V = 120 ∨ V = 88
  · rw [if_pos (decide_eq_true hV)] at CV
    have hE : Wh.unsE V F W P = Wh.chk F W P := by rw [Wh.unsE, if_pos hV]
    by_cases hc : Wh.chk F W P = 0
    · obtain ⟨⟨f0, f1⟩, ⟨wl, wu⟩, ⟨p0, p1⟩⟩ := Wh.chk_ok hc
      rw [hc] at CV
      have UD := hid (fun W' => unsignedDigits_any V u W' u0 u1)
      have bd := base_bd V
      have dl := dig_u (Wh.base V) (decide (V = 88)) u u0 u1 bd.1 bd.2
      have dy := Wh.dig_by (Wh.base V) (decide (V = 88)) u
      have FI := hid (fun W' => filled_any V F W P (Wh.dig (Wh.base V) (decide (V = 88)) u) W' p0 p1 dy dl)
      have fy : Wh.By (Wh.ubody V P u) := Wh.fil_by dy
      have fl : (Wh.ubody V P u).length ≤ 268000 := by rw [Wh.ubody, Wh.fil_len]; split <;> omega
      rw [show Wh.fil P (Wh.dig (Wh.base V) (decide (V = 88)) u) = Wh.ubody V P u from rfl] at FI
      have MK := hid (fun W' => marked_any V u (Wh.ubody V P u) W' fy (by omega))
      have HA := hid (fun W' => has_any V F W P 8 W' f0 f1 (by omega))
      have ep : (P == -1) = decide (P = -1) := by by_cases h : P = -1 <;> simp [h]
      have PA : ∀ H B, Wh.uhead V F u = H → Wh.utext V F P u = B → Hid (∀ W' (k : Below w.heap.size w W'), Calls Tryz.prog 94 #[.agg #[.int .u8 V, .int .i64 F, .int .i64 W, .int .i64 P], .string (strOfNums H), .string (strOfNums B), .bool (decide (P = -1))] W' fun e w' => ∃ s, e = .returned (.tuple #[.string s, .int .i64 0]) ∧ UnsTold V F W P u w (.returned (.tuple #[.string s, .int .i64 0])) w') := by
        rintro H B rfl rfl W' k
        have hh : Wh.By (Wh.uhead V F u) ∧ (Wh.uhead V F u).length ≤ 2 := by
          unfold Wh.uhead
          split
          · exact ⟨by intro x hx; simp at hx; omega, by simp⟩
          · split
            · exact ⟨by intro x hx; simp at hx; omega, by simp⟩
            · exact ⟨Wh.By.nil, by simp⟩
        have hb : Wh.By (Wh.utext V F P u) ∧ (Wh.utext V F P u).length ≤ 268001 := by
          unfold Wh.utext
          split
          · exact ⟨fy.cons (by omega), by rw [List.length_cons]; omega⟩
          · exact ⟨fy, by omega⟩
        have pe : Wh.padE F W P (Wh.uhead V F u) (Wh.utext V F P u) = 0 := by rw [Wh.padE, if_pos hc, if_neg (by omega)]
        refine (pad_any V F W P _ _ _ W' hh.1 hb.1 (by omega) (by omega)).mono ?_
        rintro e w' ⟨rfl, b⟩
        rw [pe]
        exact ⟨_, rfl, by rw [Wh.uns, hE, if_pos hc, hc, Wh.pad, if_pos pe]; rfl, below_on k b⟩
      cases h8 : Wh.bit F 8 with
      | true =>
        have e1 : Wh.uhead V F u = mkH V u (Wh.ubody V P u) := by
          rw [Wh.uhead, mkH]
          by_cases a : V = 111
          · rw [if_neg (by omega), if_neg (by omega)]
            by_cases c : (Wh.ubody V P u).getD 0 0 ≠ 48
            · rw [if_pos ⟨a, c⟩]
            · rw [if_neg (fun q => c q.2), if_neg (by omega), if_neg (by omega)]
          · rw [if_neg (c := V = 111 ∧ _) (fun q => a q.1)]
            by_cases b : V = 120 ∧ u ≠ 0
            · rw [if_pos ⟨h8, b.2, b.1⟩, if_pos b]
            · rw [if_neg (fun q => b ⟨q.2.2, q.2.1⟩), if_neg b]
              by_cases c : V = 88 ∧ u ≠ 0
              · rw [if_pos ⟨h8, c.2, c.1⟩, if_pos c]
              · rw [if_neg (fun q => c ⟨q.2.2, q.2.1⟩), if_neg c]
        have e2 : Wh.utext V F P u = mkB V (Wh.ubody V P u) := by
          rw [Wh.utext, mkB, Wh.umark, h8]
          by_cases a : V = 111 ∧ (Wh.ubody V P u).getD 0 0 ≠ 48
          · rw [if_pos a, if_pos (by rw [decide_eq_true a.1, decide_eq_true a.2]; rfl)]
          · rw [if_neg a, if_neg]
            intro q
            simp only [Bool.true_and, Bool.and_eq_true, decide_eq_true_eq] at q
            exact a q
        have PB := PA _ _ e1 e2
        rw [h8] at HA
        clear PA hV hE hc f0 f1 wl wu p0 p1 bd dl dy fy fl e1 e2 h0 h1 u0 u1
        generalize Wh.dig (Wh.base V) (decide (V = 88)) u = D at *
        generalize Wh.ubody V P u = BO at *
        generalize mkH V u BO = HH at *
        generalize mkB V BO = BB at *
        generalize decide (P = -1) = ez at *
        go_enter Tryz.func101, Tryz.ntmps101
        go_wp2_with fail
        with_reducible refine (CV.out _).mono ?_
        rintro e w1 ⟨rfl, b1⟩
        have B1 := hid (B0.out.on b1)
        clear b1 CV B0
        obtain ⟨c0, c1, c2, c3⟩ := B1.out.flat
        go_wp2_with fail
        with_reducible refine (UD.out _).mono ?_
        rintro e w2 ⟨rfl, b2⟩
        have B2 := hid (B1.out.on b2)
        clear b2 UD B1 c0 c1 c2 c3
        obtain ⟨c0, c1, c2, c3⟩ := B2.out.flat
        go_wp2_with fail
        with_reducible refine (FI.out _).mono ?_
        rintro e w3 ⟨rfl, b3⟩
        have B3 := hid (B2.out.on b3)
        clear b3 FI B2 c0 c1 c2 c3
        obtain ⟨c0, c1, c2, c3⟩ := B3.out.flat
        go_wp2_with fail
        with_reducible refine (HA.out _).mono ?_
        rintro e w4 ⟨rfl, b4⟩
        have B4 := hid (B3.out.on b4)
        clear b4 HA B3 c0 c1 c2 c3
        obtain ⟨c0, c1, c2, c3⟩ := B4.out.flat
        go_wp2_with fail
        with_reducible refine (MK.out _).mono ?_
        rintro e w5 ⟨rfl, b5⟩
        have B5 := hid (B4.out.on b5)
        clear b5 MK B4 c0 c1 c2 c3
        obtain ⟨c0, c1, c2, c3⟩ := B5.out.flat
        go_wp2_with fail
        with_reducible refine (PB.out _ B5.out.bel).mono ?_
        rintro e w6 ⟨s, rfl, R⟩
        have R := hid R
        clear PB
        go_wp2_with fail
        go_ret2
        exact R.out
      | false =>
        have e1 : Wh.uhead V F u = [] := by rw [Wh.uhead, h8, if_neg (fun q => Bool.false_ne_true q.1), if_neg (fun q => Bool.false_ne_true q.1)]
        have e2 : Wh.utext V F P u = Wh.ubody V P u := by rw [Wh.utext, Wh.umark, h8, Bool.false_and, Bool.false_and, if_neg Bool.false_ne_true]
        have PB := PA _ _ e1 e2
        rw [show strOfNums [] = ⟨#[]⟩ from rfl] at PB
        rw [h8] at HA
        clear PA hV hE hc f0 f1 wl wu p0 p1 bd dl dy fy fl e1 e2 h0 h1 u0 u1 MK
        generalize Wh.dig (Wh.base V) (decide (V = 88)) u = D at *
        generalize Wh.ubody V P u = BO at *
        generalize decide (P = -1) = ez at *
        go_enter Tryz.func101, Tryz.ntmps101
        go_wp2_with fail
        with_reducible refine (CV.out _).mono ?_
        rintro e w1 ⟨rfl, b1⟩
        have B1 := hid (B0.out.on b1)
        clear b1 CV B0
        obtain ⟨c0, c1, c2, c3⟩ := B1.out.flat
        go_wp2_with fail
        with_reducible refine (UD.out _).mono ?_
        rintro e w2 ⟨rfl, b2⟩
        have B2 := hid (B1.out.on b2)
        clear b2 UD B1 c0 c1 c2 c3
        obtain ⟨c0, c1, c2, c3⟩ := B2.out.flat
        go_wp2_with fail
        with_reducible refine (FI.out _).mono ?_
        rintro e w3 ⟨rfl, b3⟩
        have B3 := hid (B2.out.on b3)
        clear b3 FI B2 c0 c1 c2 c3
        obtain ⟨c0, c1, c2, c3⟩ := B3.out.flat
        go_wp2_with fail
        with_reducible refine (HA.out _).mono ?_
        rintro e w4 ⟨rfl, b4⟩
        have B4 := hid (B3.out.on b4)
        clear b4 HA B3 c0 c1 c2 c3
        obtain ⟨c0, c1, c2, c3⟩ := B4.out.flat
        go_wp2_with fail
        with_reducible refine (PB.out _ B4.out.bel).mono ?_
        rintro e w6 ⟨s, rfl, R⟩
        have R := hid R
        clear PB
        go_wp2_with fail
        go_ret2
        exact R.out
    · have G : Hid (∀ w', Below w.heap.size w w' → UnsTold V F W P u w (.returned (.tuple #[.string ⟨#[]⟩, .int .i64 (Wh.chk F W P)])) w') := fun w' k => ⟨by rw [Wh.uns, hE, if_neg hc]; rfl, k⟩
      have hne : (Wh.chk F W P == 0) = false := by simpa using hc
      clear hc hE hV
      generalize Wh.chk F W P = E at *
      go_enter Tryz.func101, Tryz.ntmps101
      go_wp2_with fail
      refine (CV.out _).mono ?_
      rintro e w1 ⟨rfl, b1⟩
      have R := hid (G.out _ (B0.out.on b1).bel)
      clear b1 CV
      go_wp2_with fail
      go_ret2
      exact R.out
  · rw [if_neg (by simpa using hV)] at CV
    have hE : Wh.unsE V F W P = 140 := by rw [Wh.unsE, if_neg hV]
    have G : Hid (∀ w', Below w.heap.size w w' → UnsTold V F W P u w (.returned (.tuple #[.string ⟨#[]⟩, .int .i64 140])) w') := fun w' k => ⟨by rw [Wh.uns, hE, if_neg (by decide)]; rfl, k⟩
    clear hV hE
    go_enter Tryz.func101, Tryz.ntmps101
    go_wp2_with fail
    refine (CV.out _).mono ?_
    rintro e w1 ⟨rfl, b1⟩
    have R := hid (G.out _ (B0.out.on b1).bel)
    clear b1 CV
    go_wp2_with fail
    go_ret2
    exact R.out
end Go.Proofs.YtiflponlioldmaaGreatDoor

namespace Go.Proofs.YtiflponlioldmaaGreatDoor
open Go
namespace Rn
open Dr (Pc tk isR)

/-- A whole number up to 2^53 and its double. -/
theorem st_whole {W X : Int} (h0 : 0 ≤ W) (h1 : W ≤ 9007199254740992) (h : Ie.Rnd W 1 0 false X) : Ie.whp X = W ∧ 0 ≤ X ∧ X < 9218868437227405312 := by
  obtain ⟨L, _, BL, _, _⟩ := blen_is [W] (Nm.Limbs.mk h0 (by omega) Nm.Limbs.nil)
  have e : Nm.val [W] = W := by simp [Nm.val]
  rw [e] at BL
  obtain ⟨x, x0, x1, hx⟩ := Ie.whole_ex W L h0 ⟨BL.2.2, BL.1⟩ h1
  have h2 : Ie.Rnd W 1 0 false x := Ie.rnd_vl W 0 x false 1075 0 (by omega) x0 x1 (by rw [hx, Int.pow_zero, Int.mul_one])
  have e : X = x := h.one (by omega) (by omega) h2 (a := 0) (a' := 0) (by omega) rfl
  rw [e]
  refine ⟨?_, x0, x1⟩
  rw [Ie.whp, hx, Int.mul_ediv_cancel _ (by have := Nm.two_pos 1075; omega)]
def clp (x : Int) : Int := min (max x (-4097)) 4097
def FI (x X : Int) : Prop := Ie.fnt X = true ∧ cutI X = clp x ∧ 0 ≤ X ∧ X < 18446744073709551616
theorem fi_nn {x X : Int} (h0 : 0 ≤ x) (h1 : x ≤ 9007199254740992) (h : Ie.Rnd x 1 0 false X) : FI x X := by
  obtain ⟨a, b, c⟩ := st_whole h0 h1 h
  have e : X % 9223372036854775808 = X := by omega
  refine ⟨?_, ?_, b, by omega⟩
  · rw [← fnt_abs, decide_eq_true_iff]; omega
  · rw [cutI, if_neg (by omega), wpt, e, a]; rfl
theorem fi_ng {x X : Int} (h0 : x < 0) (h1 : -9007199254740992 ≤ x) (h : Ie.Rnd (-x) 1 0 false X) : FI x (X + 9223372036854775808) := by
  obtain ⟨a, b, c⟩ := st_whole (by omega) (by omega) h
  have e : (X + 9223372036854775808) % 9223372036854775808 = X := by omega
  refine ⟨?_, ?_, by omega, by omega⟩
  · rw [← fnt_abs, decide_eq_true_iff]; omega
  · rw [cutI, if_pos (by omega), wpt, e, a, Int.neg_neg]; rfl

/-- The arguments that the law gives. -/
def gW (p : Pc) (X : Int) : List Ag := if p.wk = 2 then [⟨false, X, []⟩] else []
def gP (p : Pc) (Y : Int) : List Ag := if p.pk = 2 then [⟨false, Y, []⟩] else []
def gvn (p : Pc) (X Y : Int) (a : Ag) : List Ag := gW p X ++ gP p Y ++ [a]

theorem isR_v {p : Pc} (h : isR p) : ¬ (p.v = 0 ∨ p.v = 37) := by
  rintro (q | q)
  · have := h.1; rw [q] at this; exact absurd this (by decide)
  · have := h.1; rw [q] at this; exact absurd this (by decide)
theorem gvn_len {p : Pc} (h : isR p) (X Y : Int) (a : Ag) : ((gvn p X Y a).length : Int) = tk p := by
  rw [tk, if_neg (isR_v h), gvn, gW, gP]
  split <;> split <;> simp

set_option linter.unusedSimpArgs false in
theorem ste_cut {p : Pc} {x y : Int} : ste p (clp x) (clp y) = ste p x y := by
  unfold ste sW sP clp
  split
  · by_cases a : p.wk = 2
    · by_cases b : p.pk = 0
      · simp only [a, b, if_true]
        split <;> split <;> omega
      · by_cases c : p.pk = 2
        · simp only [a, b, c, if_true, if_false]
          split <;> split <;> omega
        · simp only [a, b, c, if_true, if_false]
          split <;> split <;> omega
    · by_cases b : p.pk = 0
      · simp only [a, b, if_true, if_false]
      · by_cases c : p.pk = 2
        · simp only [a, b, c, if_true, if_false]
          split <;> split <;> omega
        · simp only [a, b, c, if_false]
  · rfl
theorem ste_loc {p : Pc} {x y x' y' : Int} (hx : p.wk = 2 → x = x') (hy : p.pk = 2 → y = y') : ste p x y = ste p x' y' := by
  have a : sW p x = sW p x' := by unfold sW; split; exact hx (by assumption); rfl
  have b : sP p y = sP p y' := by
    unfold sP
    split
    · rfl
    · split
      · rw [hy (by assumption)]
      · rfl
  unfold ste
  rw [a, b]
set_option linter.unusedSimpArgs false in
theorem ste_ok {p : Pc} {x y : Int} (h : ste p x y = 0) : sW p (clp x) = sW p x ∧ sP p (clp y) = sP p y := by
  unfold ste at h
  split at h
  · split at h
    · omega
    · rename_i k
      unfold sW sP clp at *
      refine ⟨?_, ?_⟩
      · by_cases a : p.wk = 2
        · simp only [a, if_true] at k ⊢; omega
        · simp only [a, if_false]
      · by_cases b : p.pk = 0
        · simp only [b, if_true]
        · by_cases c : p.pk = 2
          · simp only [b, c, if_true, if_false] at k ⊢
            omega
          · simp only [b, c, if_false]
  · omega

theorem dir_gvn {p : Pc} {x y X Y : Int} {a : Ag} (hR : isR p) (hx : p.wk = 2 → FI x X) (hy : p.pk = 2 → FI y Y) :
    dirE p (gvn p X Y a) = (if ste p x y ≠ 0 then ste p x y else oneE p.v (sF p x) (sV p x) (sP p y) a) ∧
    (ste p x y = 0 → dirT p (gvn p X Y a) = oneT p.v (sF p x) (sV p x) (sP p y) a) := by
  have fa : aA p (gvn p X Y a) = a := by
    unfold aA gvn gW gP
    split <;> split <;> rfl
  have fw : p.wk = 2 → aW (gvn p X Y a) = ⟨false, X, []⟩ := fun q => by unfold aW gvn gW; rw [if_pos q]; rfl
  have fp : p.pk = 2 → aP p (gvn p X Y a) = ⟨false, Y, []⟩ := fun q => by
    unfold aP gvn gW gP
    rw [if_pos q]
    split <;> rfl
  have c1 : p.wk = 2 → cW p (gvn p X Y a) = clp x := fun q => by rw [cW, if_pos q, fw q]; exact (hx q).2.1
  have c2 : p.pk = 2 → cP p (gvn p X Y a) = clp y := fun q => by rw [cP, if_pos q, fp q]; exact (hy q).2.1
  have es : ste p (cW p (gvn p X Y a)) (cP p (gvn p X Y a)) = ste p x y := by rw [ste_loc c1 c2, ste_cut]
  have sw : ste p x y = 0 → sW p (cW p (gvn p X Y a)) = sW p x := fun h => by
    by_cases q : p.wk = 2
    · rw [c1 q]; exact (ste_ok h).1
    · unfold sW; rw [if_neg q, if_neg q]
  have sp : ste p x y = 0 → sP p (cP p (gvn p X Y a)) = sP p y := fun h => by
    by_cases q : p.pk = 2
    · rw [c2 q]; exact (ste_ok h).2
    · unfold sP; rw [if_neg q, if_neg q]
  refine ⟨?_, fun h => ?_⟩
  · rw [dirE, if_neg (by rw [gvn_len hR]; omega), if_neg ?_, if_neg ?_, es, fa]
    · by_cases h : ste p x y = 0
      · rw [if_neg (by simpa using h), if_neg (by simpa using h), sF, sV, sw h, sp h]; rfl
      · rw [if_pos h, if_pos h]
    · rintro (⟨q, r⟩ | ⟨q, r⟩)
      · rw [fw q, (hx q).1] at r; cases r
      · rw [fp q, (hy q).1] at r; cases r
    · rintro (⟨q, r⟩ | ⟨q, r⟩)
      · rw [fw q] at r; cases r
      · rw [fp q] at r; cases r
  · rw [dirT, fa, sF, sV, sw h, sp h]; rfl

theorem limbs_ex : ∀ (n : Nat) (V : Int), 0 ≤ V → V < Nm.pw n → ∃ zs, Nm.Limbs zs ∧ Nm.val zs = V ∧ zs.length = n
  | 0, V, h0, h1 => ⟨[], Nm.Limbs.nil, by have : Nm.pw 0 = 1 := rfl; simp [Nm.val]; omega, rfl⟩
  | n + 1, V, h0, h1 => by
    have e : Nm.pw (n + 1) = 18446744073709551616 * Nm.pw n := Nm.pw_succ n
    obtain ⟨zs, a, b, c⟩ := limbs_ex n (V / 18446744073709551616) (by omega) (by omega)
    refine ⟨V % 18446744073709551616 :: zs, Nm.Limbs.mk (by omega) (by omega) a, ?_, by simp [c]⟩
    simp only [Nm.val, b]
    omega
theorem whp_bd' (r : Int) (h0 : 0 ≤ r) (h1 : r < 9218868437227405312) : 0 ≤ Ie.whp r ∧ Ie.whp r < Nm.pw 4096 := by
  have v0 := Ie.vl_nn h0
  have mb := Ie.man_nn r h0
  have eb : Ie.ex r ≤ 2046 := by simp only [Ie.ex]; omega
  have e54 : (2 : Int) ^ 54 = 18014398509481984 := by decide
  have a1 : Ie.whp r ≤ Ie.vl r := Int.ediv_le_self _ v0
  have a0 : 0 ≤ Ie.whp r := Int.ediv_nonneg v0 (Int.le_of_lt (Nm.two_pos 1075))
  have a2 : 2 * Ie.man r * 2 ^ Ie.ex r ≤ 2 ^ 54 * 2 ^ Ie.ex r := Int.mul_le_mul_of_nonneg_right (by rw [e54]; omega) (Int.le_of_lt (Nm.two_pos (Ie.ex r)))
  rw [← Nm.two_add] at a2
  have a3 : (2 : Int) ^ (54 + Ie.ex r) ≤ Nm.pw 4095 := by rw [Nm.pw_two]; exact Nm.two_mono (by omega)
  have a4 : Nm.pw 4095 < Nm.pw 4096 := by have e : Nm.pw 4096 = 18446744073709551616 * Nm.pw 4095 := Nm.pw_succ 4095; have := Nm.pw_pos 4095; omega
  have a5 : Ie.vl r = 2 * Ie.man r * 2 ^ Ie.ex r := rfl
  rw [← a5] at a2
  exact ⟨a0, Int.lt_of_le_of_lt (Int.le_trans a1 (Int.le_trans a2 a3)) a4⟩

theorem whp_dig (r : Int) (h0 : 0 ≤ r) (h1 : r < 9218868437227405312) : (Wh.dig 10 false (Ie.whp r)).length ≤ 262144 := by
  obtain ⟨a, b⟩ := whp_bd' r h0 h1
  obtain ⟨zs, z1, z2, z3⟩ := limbs_ex 4096 _ a b
  have := (dig_nil 10 false zs z1 (Nat.le_trans (Nm.tsize_le zs) (by omega)) (by omega) (by omega)).2
  rwa [z2] at this

/-- A text is no longer than a text may be. -/
theorem oneT_len {V F W P : Int} {a : Ag} (h : oneE V F W P a = 0) : (oneT V F W P a).length ≤ 16777216 := by
  have hv : ¬ Dr.idx Dr.verbs V < 0 := fun q => by rw [oneE, if_pos q] at h; omega
  have hc : Wh.chk F W P = 0 := by
    rw [oneE, if_neg hv] at h
    by_cases q : Wh.chk F W P = 0
    · exact q
    · rw [if_pos q] at h; exact h
  obtain ⟨⟨f0, f1⟩, ⟨w0, w1⟩, ⟨p0, p1⟩⟩ := Wh.chk_ok hc
  have E : ¬ oneE V F W P a ≠ 0 := fun q => q h
  have pl : ∀ z hd b, hd.length + b.length ≤ 16777216 → (Wh.padT F W z hd b).length ≤ 16777216 := fun z hd b q => by rw [Wh.padT_len]; omega
  have fl : ∀ d : List Int, d.length ≤ 262144 → (Wh.fil P d).length ≤ 268000 := fun d q => by rw [Wh.fil_len]; split <;> omega
  have sl := fun x => Wh.sgn_len F x
  have nl := Po.nm_len (Po.cap V) (Ie.cls a.n)
  have SP : (Po.spc V F W P a.n).length ≤ 16777216 := by
    unfold Po.spc
    split
    · exact pl _ _ _ (by have := sl (Po.ng a.n); omega)
    · simp
  have FN : Ie.fnt a.n = true → a.n % 9223372036854775808 < 9218868437227405312 := fun q => by rw [← fnt_abs, decide_eq_true_iff] at q; exact q
  rw [oneT, if_neg E]
  by_cases q1 : V = 115
  · rw [if_pos q1]
    unfold Wh.tex
    split
    · rename_i t
      refine pl _ _ _ ?_
      rw [Wh.texE, if_pos q1, Wh.padE, if_pos hc] at t
      split at t
      · omega
      · omega
    · simp
  rw [if_neg q1]
  by_cases q2 : V = 99
  · rw [if_pos q2]
    have cl : ∀ t : List Int, (Wh.chr V F W P t).length ≤ 16777216 := fun t => by
      unfold Wh.chr
      split
      · exact pl _ _ _ (by rw [List.length_take]; simp; omega)
      · simp
    split
    · exact cl _
    · exact cl _
  rw [if_neg q2]
  by_cases q4 : V = 100 ∨ V = 105
  · rw [if_pos q4]
    by_cases q3 : Ie.fnt a.n = true
    · rw [if_pos q3]
      exact pl _ _ _ (by have := fl _ (whp_dig (a.n % 9223372036854775808) (by omega) (FN q3)); have := sl (Po.ng a.n && decide (wpt a.n ≠ 0)); unfold wpt at *; omega)
    · rw [if_neg q3]; exact SP
  rw [if_neg q4]
  by_cases q5 : V = 111 ∨ V = 117 ∨ V = 120 ∨ V = 88
  · rw [if_pos q5]
    by_cases q3 : Ie.fnt a.n = true
    · rw [if_pos q3]
      have lb := low_bd a.n
      have bb := base_bd V
      have ul : (Wh.ubody V P (low a.n)).length ≤ 268000 := fl _ (dig_u _ _ _ lb.1 lb.2 bb.1 bb.2)
      refine pl _ _ _ ?_
      have h2 : (Wh.uhead V F (low a.n)).length ≤ 2 := by
        unfold Wh.uhead
        split
        · simp
        · split <;> simp
      have h3 : (Wh.utext V F P (low a.n)).length ≤ 268001 := by
        unfold Wh.utext
        split
        · rw [List.length_cons]; omega
        · omega
      omega
    · rw [if_neg q3]; exact SP
  rw [if_neg q5]
  exact Nat.le_trans Po.ren_len.1 (by omega)

/-- What Pieces tells of the one directive. -/
theorem star_told {p : Pc} {x y X Y : Int} {a : Ag} (hR : isR p) (hx : p.wk = 2 → FI x X) (hy : p.pk = 2 → FI y Y) :
    (ste p x y ≠ 0 → pE [p] (gvn p X Y a) = ste p x y ∧ pT [p] (gvn p X Y a) = []) ∧
    (ste p x y = 0 → pE [p] (gvn p X Y a) = oneE p.v (sF p x) (sV p x) (sP p y) a ∧ pT [p] (gvn p X Y a) = oneT p.v (sF p x) (sV p x) (sP p y) a) := by
  have ok : ∀ q ∈ [p], Dr.ok q := fun q hq => by simp at hq; rw [hq]; exact .inr (.inr hR)
  have nv := isR_v hR
  obtain ⟨d1, d2⟩ := dir_gvn (a := a) hR hx hy
  have e1 : stE p (gvn p X Y a) = dirE p (gvn p X Y a) := by rw [stE, if_neg nv]
  have e2 : stT p (gvn p X Y a) = dirT p (gvn p X Y a) := by rw [stT, if_neg (fun q => nv (.inl q)), if_neg (fun q => nv (.inr q))]
  refine ⟨fun h => ?_, fun h => ?_⟩
  · rw [pE, pT, if_pos ok, if_pos ok, run, e1, d1, if_pos h, if_pos h]; exact ⟨rfl, rfl⟩
  · rw [if_neg (fun q => q h)] at d1
    rw [pE, pT, if_pos ok, if_pos ok, run, e1, d1, e2, d2 h]
    by_cases k : oneE p.v (sF p x) (sV p x) (sP p y) a ≠ 0
    · rw [if_pos k]; exact ⟨rfl, by rw [oneT, if_pos k]⟩
    · rw [if_neg k, if_neg (by have := oneT_len (a := a) (by simpa using k); simp; omega), run]
      exact ⟨(by simpa using k : oneE _ _ _ _ _ = 0).symm, rfl⟩
/-- One argument less. -/
theorem star_few {p : Pc} {X Y : Int} {a : Ag} (hR : isR p) : pE [p] ((gvn p X Y a).take ((gvn p X Y a).length - 1)) = 160 := by
  have ok : ∀ q ∈ [p], Dr.ok q := fun q hq => by simp at hq; rw [hq]; exact .inr (.inr hR)
  have nv := isR_v hR
  have l := gvn_len hR X Y a
  have tb : 1 ≤ tk p := by rw [tk, if_neg nv]; split <;> split <;> omega
  have d : stE p ((gvn p X Y a).take ((gvn p X Y a).length - 1)) = 160 := by
    rw [stE, if_neg nv, dirE, if_pos (by rw [List.length_take]; omega)]
  rw [pE, if_pos ok, run, d, if_pos (by decide)]
/-- A text; a percent sign. -/
theorem star_text {p : Pc} {A : List Ag} (h : Dr.isT p) : pE [p] A = (if 16777216 < p.t.length then 3 else 0) ∧ pT [p] A = (if 16777216 < p.t.length then [] else p.t) := by
  have ok : ∀ q ∈ [p], Dr.ok q := fun q hq => by simp at hq; rw [hq]; exact .inl h
  have v : p.v = 0 := h.2.1
  have e1 : stE p A = 0 := by rw [stE, if_pos (.inl v)]
  have e2 : stT p A = p.t := by rw [stT, if_pos v]
  rw [pE, pT, if_pos ok, if_pos ok, run, e1, e2, if_neg (by decide)]
  simp only [List.length_nil, Nat.zero_add, List.nil_append]
  split
  · exact ⟨rfl, rfl⟩
  · exact ⟨rfl, rfl⟩
theorem star_pct {p : Pc} {A : List Ag} (h : Dr.isP p) : pE [p] A = 0 ∧ pT [p] A = [37] := by
  have ok : ∀ q ∈ [p], Dr.ok q := fun q hq => by simp at hq; rw [hq]; exact .inr (.inl h)
  have v : p.v = 37 := h.2.1
  have e1 : stE p A = 0 := by rw [stE, if_pos (.inr v)]
  have e2 : stT p A = [37] := by rw [stT, if_neg (by omega), if_pos v]
  rw [pE, pT, if_pos ok, if_pos ok, run, e1, e2, if_neg (by decide)]
  exact ⟨rfl, rfl⟩
end Rn
end Go.Proofs.YtiflponlioldmaaGreatDoor

namespace Go.Proofs.YtiflponlioldmaaGreatDoor
open Go Go.RowKit Go.Deep Go.Shelf

theorem ext_take {xs : List Int} (hx : Wh.By xs) (k : Nat) : (strOfNums xs).extract 0 k = strOfNums (xs.take k) := by
  have q := (Str.of_nums hx).extract 0 k
  rw [List.drop_zero, Nat.sub_zero] at q
  exact str_is q

set_option maxRecDepth 100000 in
theorem first_any (xs : List Int) (n : Nat) (w : World) (hx : Wh.By xs) (hl : xs.length ≤ 140737488355328) (hn : n ≤ 4096) :
    Calls Tryz.prog 96 #[.string (strOfNums xs), .int .i64 (n : Int)] w fun e w' => e = .returned (.string (strOfNums (xs.take n))) ∧ Below w.heap.size w w' := by
  have B := hid (Below.refl w.heap.size w)
  have sx : (strOfNums xs).size = xs.length := strOfNums_size xs
  have l2 : (xs.length : Int) ≤ 140737488355328 := by omega
  have n2 : (n : Int) ≤ 4096 := by omega
  by_cases h : n ≤ xs.length
  · have mn : min (n : Int) (xs.length : Int) = (n : Int) := by omega
    have G := hid (ext_take hx n)
    clear hx
    go_enter Tryz.func96, Tryz.ntmps96
    go_wp2_with fail
    go_ret
    exact ⟨ret_str G.out, B.out⟩
  · have mn : min (n : Int) (xs.length : Int) = (xs.length : Int) := by omega
    have G : Hid ((strOfNums xs).extract 0 xs.length = strOfNums (xs.take n)) := by
      rw [Hid, ext_take hx, List.take_of_length_le (Nat.le_refl _), List.take_of_length_le (by omega)]
    clear hx
    go_enter Tryz.func96, Tryz.ntmps96
    go_wp2_with fail
    go_ret
    exact ⟨ret_str G.out, B.out⟩

def ChrTold (V F W P : Int) (t : List Int) (w : World) (e : Ending) (w' : World) : Prop := e = .returned (.tuple #[.string (strOfNums (Wh.chr V F W P t)), .int .i64 (Wh.chrE V F W P)]) ∧ Below w.heap.size w w'
def TexTold (V F W P : Int) (t : List Int) (w : World) (e : Ending) (w' : World) : Prop := e = .returned (.tuple #[.string (strOfNums (Wh.tex V F W P t)), .int .i64 (Wh.texE V F W P t)]) ∧ Below w.heap.size w w'

set_option maxRecDepth 100000 in
set_option maxHeartbeats 2000000 in
theorem char_any (V F W P : Int) (t : List Int) (w : World) (h0 : 0 ≤ V) (h1 : V < 256) (ht : Wh.By t) (hl : t.length ≤ 140737488355328) :
    Calls Tryz.prog 52 #[.agg #[.int .u8 V, .int .i64 F, .int .i64 W, .int .i64 P], .string (strOfNums t)] w fun e w' => ChrTold V F W P t w e w' := by
  have B0 := hid (SB.new w V F W P)
  have CV := hid (fun W' => checkVerb_any V F W P ⟨#[99]⟩ _ W' (vb_c V h0 h1))
  have e0 : (if decide (V = 99) = true then Wh.chk F W P else 140) = Wh.chrE V F W P := by
    rw [Wh.chrE]; by_cases h : V = 99
    · rw [if_pos (decide_eq_true h), if_pos h]
    · rw [if_neg (by simpa using h), if_neg h]
  rw [e0] at CV
  clear e0
  by_cases hE : Wh.chrE V F W P = 0
  · have hV : V = 99 := by
      by_cases h : V = 99
      · exact h
      · rw [Wh.chrE, if_neg h] at hE; omega
    have hc : Wh.chk F W P = 0 := by rw [Wh.chrE, if_pos hV] at hE; exact hE
    have FI : Hid (∀ W', Calls Tryz.prog 96 #[.string (strOfNums t), .int .i64 1] W' fun e w' => e = .returned (.string (strOfNums (t.take 1))) ∧ Below W'.heap.size W' w') := fun W' => first_any t 1 W' ht hl (by omega)
    have PA : Hid (∀ W', Calls Tryz.prog 94 #[.agg #[.int .u8 V, .int .i64 F, .int .i64 W, .int .i64 P], .string ⟨#[]⟩, .string (strOfNums (t.take 1)), .bool false] W' fun e w' => PadTold F W P false [] (t.take 1) W' e w') := (fun W' => pad_any V F W P [] (t.take 1) false W' Wh.By.nil (ht.take 1) (by simp) (by rw [List.length_take]; omega))
    have pe : Wh.padE F W P [] (t.take 1) = 0 := by rw [Wh.padE, if_pos hc, if_neg (by rw [List.length_take]; simp; omega)]
    have G : Hid (∀ W' e w', PadTold F W P false [] (t.take 1) W' e w' → Below w.heap.size w W' → ∃ s, e = .returned (.tuple #[.string s, .int .i64 0]) ∧ ChrTold V F W P t w (.returned (.tuple #[.string s, .int .i64 0])) w') := by
      rintro W' e w' ⟨rfl, k⟩ b
      rw [pe]
      exact ⟨_, rfl, by rw [Wh.chr, if_pos hE, hE, Wh.pad, if_pos pe], below_on b k⟩
    rw [hE] at CV
    clear hE hV hc pe ht hl h0 h1
    go_enter Tryz.func52, Tryz.ntmps52
    go_wp2_with fail
    refine (CV.out _).mono ?_
    rintro e w1 ⟨rfl, b1⟩
    have B1 := hid (B0.out.on b1)
    clear b1 CV B0
    go_upto_region 4 with fail
    have T1 := hid B1.out.drew
    go_region_held3 (fun wx => wx.cell? ⟨w.heap.size, 0, none⟩ = some (.int .u8 V) ∧ wx.cell? ⟨w.heap.size, 1, none⟩ = some (.int .i64 F) ∧ wx.cell? ⟨w.heap.size, 2, none⟩ = some (.int .i64 W) ∧ wx.cell? ⟨w.heap.size, 3, none⟩ = some (.int .i64 P)) (first | (with_reducible exact T3.out.flat) | (with_reducible exact T2.out.flat) | (with_reducible exact T1.out.flat)) (first
      | (go_at_call 96; with_reducible refine (FI.out _).mono ?_; rintro e wa ⟨rfl, hB⟩; have T2 := hid (T1.out.on hB); clear hB)
      | (go_at_call 94; with_reducible refine (PA.out _).mono ?_; rintro e wb hP; have T3 := hid (T2.out.on hP.bel); obtain ⟨s, rfl, R⟩ := G.out _ _ _ hP T2.out.bel; have R := hid R; clear hP))
    go_wp2_with fail
    go_ret2
    exact R.out
  · have G : Hid (∀ w', Below w.heap.size w w' → ChrTold V F W P t w (.returned (.tuple #[.string ⟨#[]⟩, .int .i64 (Wh.chrE V F W P)])) w') := fun w' k => ⟨by rw [Wh.chr, if_neg hE]; rfl, k⟩
    have hne : (Wh.chrE V F W P == 0) = false := by simpa using hE
    clear hE ht hl
    generalize Wh.chrE V F W P = E at *
    go_enter Tryz.func52, Tryz.ntmps52
    go_wp2_with fail
    refine (CV.out _).mono ?_
    rintro e w1 ⟨rfl, b1⟩
    have R := hid (G.out _ (B0.out.on b1).bel)
    clear b1 CV
    go_wp2_with fail
    go_ret2
    exact R.out

set_option maxRecDepth 100000 in
set_option maxHeartbeats 2000000 in
theorem text_any (V F W P : Int) (t : List Int) (w : World) (h0 : 0 ≤ V) (h1 : V < 256) (ht : Wh.By t) (hl : t.length ≤ 140737488355328) :
    Calls Tryz.prog 51 #[.agg #[.int .u8 V, .int .i64 F, .int .i64 W, .int .i64 P], .string (strOfNums t)] w fun e w' => TexTold V F W P t w e w' := by
  have B0 := hid (SB.new w V F W P)
  have CV := hid (fun W' => checkVerb_any V F W P ⟨#[115]⟩ _ W' (vb_s V h0 h1))
  by_cases hV : V = 115
  · rw [if_pos (decide_eq_true hV)] at CV
    have eE : Wh.texE V F W P t = Wh.padE F W P [] (Wh.cut P t) := by rw [Wh.texE, if_pos hV]
    by_cases hc : Wh.chk F W P = 0
    · obtain ⟨-, -, ⟨p0, p1⟩⟩ := Wh.chk_ok hc
      have G : Hid (∀ W' e w', PadTold F W P false [] (Wh.cut P t) W' e w' → Below w.heap.size w W' → ∃ s E, e = .returned (.tuple #[.string s, .int .i64 E]) ∧ TexTold V F W P t w (.returned (.tuple #[.string s, .int .i64 E])) w') := by
        rintro W' e w' ⟨rfl, k⟩ b
        exact ⟨_, _, rfl, by rw [Wh.tex, eE, Wh.pad], below_on b k⟩
      rw [hc] at CV
      by_cases hP : P = -1
      · have ec : Wh.cut P t = t := if_pos hP
        have PA : Hid (∀ W', Calls Tryz.prog 94 #[.agg #[.int .u8 V, .int .i64 F, .int .i64 W, .int .i64 P], .string ⟨#[]⟩, .string (strOfNums t), .bool false] W' fun e w' => PadTold F W P false [] t W' e w') := (fun W' => pad_any V F W P [] t false W' Wh.By.nil ht (by simp) hl)
        rw [ec] at G
        clear eE hc ec ht hl h0 h1 hV
        subst hP
        go_enter Tryz.func51, Tryz.ntmps51
        go_wp2_with fail
        refine (CV.out _).mono ?_
        rintro e w1 ⟨rfl, b1⟩
        have B1 := hid (B0.out.on b1)
        clear b1 CV B0
        obtain ⟨c0, c1, c2, c3⟩ := B1.out.flat
        go_wp2_with fail
        refine (PA.out _).mono ?_
        rintro e wb hP
        obtain ⟨s, E, rfl, R⟩ := G.out _ _ _ hP B1.out.bel
        have R := hid R
        clear hP
        go_wp2_with fail
        go_ret2
        exact R.out
      · obtain ⟨n, rfl⟩ := Int.eq_ofNat_of_zero_le (show 0 ≤ P by omega)
        have ec : Wh.cut (n : Int) t = t.take n := by rw [Wh.cut, if_neg hP]; rfl
        have FI := hid (fun W' => first_any t n W' ht hl (by omega))
        have PA : Hid (∀ W', Calls Tryz.prog 94 #[.agg #[.int .u8 V, .int .i64 F, .int .i64 W, .int .i64 (n : Int)], .string ⟨#[]⟩, .string (strOfNums (t.take n)), .bool false] W' fun e w' => PadTold F W (n : Int) false [] (t.take n) W' e w') := (fun W' => pad_any V F W (n : Int) [] (t.take n) false W' Wh.By.nil (ht.take n) (by simp) (by rw [List.length_take]; omega))
        rw [ec] at G
        have hne : ((n : Int) == -1) = false := by simp
        clear eE hc ec ht hl h0 h1 hV hP
        go_enter Tryz.func51, Tryz.ntmps51
        go_wp2_with fail
        refine (CV.out _).mono ?_
        rintro e w1 ⟨rfl, b1⟩
        have B1 := hid (B0.out.on b1)
        clear b1 CV B0
        obtain ⟨c0, c1, c2, c3⟩ := B1.out.flat
        go_wp2_with fail
        refine (FI.out _).mono ?_
        rintro e w2 ⟨rfl, b2⟩
        have B2 := hid (B1.out.on b2)
        clear b2 B1 c0 c1 c2 c3
        obtain ⟨c0, c1, c2, c3⟩ := B2.out.flat
        go_wp2_with fail
        refine (PA.out _).mono ?_
        rintro e wb hP
        obtain ⟨s, E, rfl, R⟩ := G.out _ _ _ hP B2.out.bel
        have R := hid R
        clear hP
        go_wp2_with fail
        go_ret2
        exact R.out
    · have eE2 : Wh.texE V F W P t = Wh.chk F W P := by rw [eE, Wh.padE, if_neg hc]
      have G : Hid (∀ w', Below w.heap.size w w' → TexTold V F W P t w (.returned (.tuple #[.string ⟨#[]⟩, .int .i64 (Wh.chk F W P)])) w') := fun w' k => ⟨by rw [Wh.tex, eE2, if_neg hc]; rfl, k⟩
      have hne : (Wh.chk F W P == 0) = false := by simpa using hc
      clear hc eE eE2 ht hl hV
      generalize Wh.chk F W P = E at *
      go_enter Tryz.func51, Tryz.ntmps51
      go_wp2_with fail
      refine (CV.out _).mono ?_
      rintro e w1 ⟨rfl, b1⟩
      have R := hid (G.out _ (B0.out.on b1).bel)
      clear b1 CV
      go_wp2_with fail
      go_ret2
      exact R.out
  · rw [if_neg (by simpa using hV)] at CV
    have eE : Wh.texE V F W P t = 140 := by rw [Wh.texE, if_neg hV]
    have G : Hid (∀ w', Below w.heap.size w w' → TexTold V F W P t w (.returned (.tuple #[.string ⟨#[]⟩, .int .i64 140])) w') := fun w' k => ⟨by rw [Wh.tex, eE, if_neg (by decide)]; rfl, k⟩
    clear ht hl hV eE
    go_enter Tryz.func51, Tryz.ntmps51
    go_wp2_with fail
    refine (CV.out _).mono ?_
    rintro e w1 ⟨rfl, b1⟩
    have R := hid (G.out _ (B0.out.on b1).bel)
    clear b1 CV
    go_wp2_with fail
    go_ret2
    exact R.out
end Go.Proofs.YtiflponlioldmaaGreatDoor

namespace Go.Proofs.YtiflponlioldmaaGreatDoor
open Go Go.RowKit Go.Deep Go.Shelf

namespace Ie
theorem rwhp_bd (r : Int) (h0 : 0 ≤ r) (h1 : r < 9218868437227405312) : 0 ≤ whp r ∧ whp r < Nm.pw 4096 := by
  have v0 := vl_nn h0
  have mb := man_nn r h0
  have eb : ex r ≤ 2046 := by simp only [ex]; omega
  have e54 : (2 : Int) ^ 54 = 18014398509481984 := by decide
  have a1 : whp r ≤ vl r := Int.ediv_le_self _ v0
  have a0 : 0 ≤ whp r := Int.ediv_nonneg v0 (Int.le_of_lt (Nm.two_pos 1075))
  have a2 : 2 * man r * 2 ^ ex r ≤ 2 ^ 54 * 2 ^ ex r := Int.mul_le_mul_of_nonneg_right (by rw [e54]; omega) (Int.le_of_lt (Nm.two_pos (ex r)))
  rw [← Nm.two_add] at a2
  have a3 : (2 : Int) ^ (54 + ex r) ≤ Nm.pw 4095 := by rw [Nm.pw_two]; exact Nm.two_mono (by omega)
  have a4 : Nm.pw 4095 < Nm.pw 4096 := by have e : Nm.pw 4096 = 18446744073709551616 * Nm.pw 4095 := Nm.pw_succ 4095; have := Nm.pw_pos 4095; omega
  have a5 : vl r = 2 * man r * 2 ^ ex r := rfl
  rw [← a5] at a2
  exact ⟨a0, Int.lt_of_le_of_lt (Int.le_trans a1 (Int.le_trans a2 a3)) a4⟩
end Ie
theorem fin_iff {d : Int} : Ie.fnt d = true ↔ d % 9223372036854775808 < 9218868437227405312 := by
  rw [← fnt_abs d, decide_eq_true_iff]
theorem fin_not {d : Int} : Ie.fnt d = false ↔ 9218868437227405312 ≤ d % 9223372036854775808 := by
  rw [← fnt_abs d, decide_eq_false_iff_not]; omega

set_option maxRecDepth 100000 in
theorem rcheck_any (V F W P : Int) (w : World) (v0 : 0 ≤ V) (v1 : V < 256) :
    Calls Tryz.prog 49 #[.agg #[.int .u8 V, .int .i64 F, .int .i64 W, .int .i64 P]] w fun e w' => e = .returned (.int .i64 (if Dr.idx Dr.verbs V < 0 then 140 else Wh.chk F W P)) ∧ Below w.heap.size w w' := by
  have B0 := hid (SB.new w V F W P)
  have IX := hid (fun wk => idx_any ⟨#[100, 105, 111, 117, 120, 88, 99, 115, 101, 69, 102, 70, 103, 71]⟩ Dr.verbs V wk rfl v0 v1)
  have PA : Hid (∀ wk, Calls Tryz.prog 94 #[.agg #[.int .u8 V, .int .i64 F, .int .i64 W, .int .i64 P], .string ⟨#[]⟩, .string ⟨#[]⟩, .bool false] wk fun e w' => ∃ t, e = .returned (.tuple #[.string t, .int .i64 (Wh.chk F W P)]) ∧ Below wk.heap.size wk w') := by
    intro wk
    refine (pad_any V F W P [] [] false wk Wh.By.nil Wh.By.nil (by simp) (by simp)).mono ?_
    rintro e w' ⟨rfl, k⟩
    rw [(pad_small (F := F) (W := W) (P := P) (z := false) (h := []) (b := []) (by simp)).1]
    exact ⟨_, rfl, k⟩
  generalize Dr.idx Dr.verbs V = ix at *
  generalize Wh.chk F W P = E at *
  clear v0 v1
  by_cases h : ix < 0
  · rw [if_pos h]
    have R := hid B0.out.bel
    clear PA B0
    go_enter Tryz.func49, Tryz.ntmps49
    go_wp2_with (go_at_call 54; refine (IX.out _).mono ?_; rintro e w2 ⟨rfl, rfl⟩)
    go_ret
    exact ⟨rfl, R.out⟩
  · rw [if_neg h]
    go_enter Tryz.func49, Tryz.ntmps49
    go_wp2_with (go_at_call 54; refine (IX.out _).mono ?_; rintro e w2 ⟨rfl, rfl⟩)
    with_reducible refine (PA.out _).mono ?_
    rintro e w1 ⟨t, rfl, b1⟩
    have R := hid (B0.out.on b1).bel
    clear PA IX B0 b1
    go_wp2_with fail
    go_ret
    exact ⟨rfl, R.out⟩

set_option maxRecDepth 100000 in
theorem takes_any (V : Int) (x : Bool) (n : Int) (s : ByteArray) (w : World) :
    Calls Tryz.prog 50 #[.int .u8 V, .agg #[.bool x, .int .u64 n, .string s]] w fun e w' => e = .returned (.bool (decide (V = 99) || (x == decide (V = 115)))) ∧ Below w.heap.size w w' := by
  have R := hid (alloc_b w (.cells #[.bool x, .int .u64 n, .string s] 28))
  by_cases h : V = 99
  · subst h
    go_enter Tryz.func50, Tryz.ntmps50
    go_wp2_with fail
    go_ret
    exact ⟨rfl, R.out⟩
  · have h1 : (V == 99) = false := by simpa using h
    rw [decide_eq_false h, Bool.false_or]
    by_cases k : V = 115
    · subst k
      cases x <;> (go_enter Tryz.func50, Tryz.ntmps50; go_wp2_with fail; go_ret; exact ⟨rfl, R.out⟩)
    · have h2 : (V == 115) = false := by simpa using k
      rw [decide_eq_false k]
      clear h k
      cases x <;> (go_enter Tryz.func50, Tryz.ntmps50; go_wp2_with fail; go_ret; exact ⟨rfl, R.out⟩)

namespace Rn
theorem low_neg {d : Int} (h : 9223372036854775808 ≤ d) : low d = (-(wpt d)) % 18446744073709551616 := by rw [low, if_pos h]
theorem low_pos {d : Int} (h : ¬ 9223372036854775808 ≤ d) : low d = wpt d % 18446744073709551616 := by rw [low, if_neg h]
end Rn
set_option maxRecDepth 100000 in
theorem rlow_any (d : Int) (r : Option Addr) (os : List Int) (B : Nat) (w : World) (h : Ans B w r os (Rn.wpt d)) (hl : os.length ≤ 4096) :
    Calls Tryz.prog 97 #[.bool (decide (9223372036854775808 ≤ d)), .slice r os.length os.length] w fun e w' => e = .returned (.int .u64 (Rn.low d)) ∧ w' = w := by
  obtain ⟨hL, hZ, hT, hV, -⟩ := h
  cases os with
  | nil =>
    have z : Rn.low d = 0 := by
      have e : Rn.wpt d = 0 := hV.symm
      rw [Rn.low, e]; split <;> rfl
    rw [z]
    clear z hV hT hZ hL
    generalize decide (9223372036854775808 ≤ d) = ng
    go_enter Tryz.func97, Tryz.ntmps97
    go_wp2_with fail
    go_ret
    exact ⟨rfl, rfl⟩
  | cons x xs =>
    rcases hL with hL | ⟨b, off, rfl, hc⟩
    · simp at hL
    · have c0 := hc 0 (by simp)
      rw [Nat.add_zero, List.getD_cons_zero] at c0
      have x0 := hZ x (by simp)
      have e : Rn.wpt d = x + 18446744073709551616 * Nm.val xs := hV.symm
      have ln : ¬ ((x :: xs).length : Int) = 0 := by rw [List.length_cons]; omega
      have lp : (0 : Int) < ((x :: xs).length : Int) := by rw [List.length_cons]; omega
      by_cases hd : 9223372036854775808 ≤ d
      · have z : Rn.low d = (-x) % 18446744073709551616 := by rw [Rn.low_neg hd, e]; omega
        have Z : Hid (IntKind.u64.wrap (-x) = Rn.low d) := by rw [Hid, z, IntKind.wrap_u64]
        rw [decide_eq_true hd]
        clear hc hZ hT hV e z hd
        generalize Rn.low d = L at *
        have ne : (((x :: xs).length : Int) == 0) = false := by simpa using ln
        generalize (x :: xs).length = n at *
        go_enter Tryz.func97, Tryz.ntmps97
        go_wp2_with fail
        go_ret
        exact ⟨by rw [← Z.out]; rfl, rfl⟩
      · have z : Rn.low d = x := by rw [Rn.low_pos hd, e]; omega
        rw [decide_eq_false hd, z]
        clear hc hZ hT hV e z hd
        have ne : (((x :: xs).length : Int) == 0) = false := by simpa using ln
        generalize (x :: xs).length = n at *
        go_enter Tryz.func97, Tryz.ntmps97
        go_wp2_with fail
        go_ret
        exact ⟨rfl, rfl⟩
end Go.Proofs.YtiflponlioldmaaGreatDoor

namespace Go.Proofs.YtiflponlioldmaaGreatDoor
open Go Go.RowKit Go.Deep Go.Shelf

/-- What wholePart writes. -/
noncomputable def Rn.whT (V F W P d : Int) : List Int :=
  if V = 100 ∨ V = 105 then (if Ie.fnt d = true then Wh.sigT F W P (Po.ng d) (Rn.wpt d) else Po.spc V F W P d) else (if Ie.fnt d = true then Wh.unsT V F W P (Rn.low d) else Po.spc V F W P d)

theorem idx_di {V : Int} : (0 ≤ Dr.idx [100, 105] V) ↔ (V = 100 ∨ V = 105) := by
  constructor
  · intro h
    rcases Dr.idx_cons h with h | h
    · exact .inl h
    · rcases Dr.idx_cons h with h | h
      · exact .inr h
      · simp [Dr.idx] at h
  · rintro (rfl | rfl) <;> decide

theorem rone_str {g n : Nat} {W : World} {fs : List Int} (o : OwnB W g fs) (hn : fs.length = n) :
    (convert 70 9 (.slice (some ⟨g, 0, none⟩) n n)).run Tryz.prog W = .ok (.string (strOfNums fs)) W :=
  run_convert_bytes_arg (P := Tryz.prog) W 70 5 Tryz.underlying70 Tryz.underlying5 g 0 n n fs hn (fun i hi => by rw [Nat.zero_add, o.cell i (by omega)]) 9 Tryz.underlying9
set_option maxRecDepth 100000 in
set_option maxHeartbeats 2000000 in
theorem wholePart_any (V F W P d : Int) (w : World) (v0 : 0 ≤ V) (v1 : V < 256) (h0 : 0 ≤ d) (h1 : d < 18446744073709551616) (hc : Wh.chk F W P = 0) (hV : V = 100 ∨ V = 105 ∨ V = 111 ∨ V = 117 ∨ V = 120 ∨ V = 88) :
    Calls Tryz.prog 55 #[.agg #[.int .u8 V, .int .i64 F, .int .i64 W, .int .i64 P], .int .u64 d] w fun e w' => e = .returned (.tuple #[.string (strOfNums (Rn.whT V F W P d)), .int .i64 0]) ∧ Below w.heap.size w w' := by
  have B0 := hid (SB.new w V F W P)
  by_cases hf : Ie.fnt d = true
  · have hr := fin_iff.1 hf
    obtain ⟨V0, Vb⟩ := Ie.rwhp_bd (d % 9223372036854775808) (by omega) hr
    have WH := hid (fun wk => whole_fin d wk h0 h1 hr)
    have IX := hid (fun wk => idx_any ⟨#[100, 105]⟩ [100, 105] V wk rfl v0 v1)
    by_cases hd : V = 100 ∨ V = 105
    · have ix : 0 ≤ Dr.idx [100, 105] V := idx_di.2 hd
      have eT : Rn.whT V F W P d = Wh.sigT F W P (Po.ng d) (Rn.wpt d) := by rw [Rn.whT, if_pos hd, if_pos hf]
      have SG : Hid (∀ wk r os B, Ans B wk r os (Ie.whp (d % 9223372036854775808)) → Calls Tryz.prog 100 #[.agg #[.int .u8 V, .int .i64 F, .int .i64 W, .int .i64 P], .bool (decide (9223372036854775808 ≤ d)), .slice r os.length os.length] wk fun e w' => e = .returned (.tuple #[.string (strOfNums (Rn.whT V F W P d)), .int .i64 0]) ∧ Below wk.heap.size wk w') := by
        intro wk r os B A
        have l := ans_small A 4096 Vb
        refine (wsigned_any V F W P _ r _ _ os wk v0 v1 (A.arg (by omega))).mono ?_
        rintro e w' ⟨rfl, k⟩
        have t0 : Wh.sigE V F W P (Nm.tsize os) = 0 := by rw [Wh.sigE, if_pos hd, if_pos hc, if_neg (by rw [A.2.2.1]; omega)]
        refine ⟨?_, k⟩
        rw [Wh.sig, t0, if_pos rfl, eT, A.2.2.2.1]; rfl
      generalize Rn.whT V F W P d = T at *
      generalize Dr.idx [100, 105] V = I at *
      unfold WholeTold at WH
      generalize Ie.whp (d % 9223372036854775808) = U at *
      generalize decide (9223372036854775808 ≤ d) = ng at *
      clear v0 v1 h0 h1 hc hV hf hr V0 Vb hd eT
      go_enter Tryz.func55, Tryz.ntmps55
      go_wp2_with fail
      with_reducible refine (WH.out _).mono ?_
      rintro e w1 ⟨r, os, rfl, a1, b1⟩
      have B1 := hid (B0.out.on b1)
      have A1 := hid a1
      clear b1 B0 WH a1
      obtain ⟨c0, c1, c2, c3⟩ := B1.out.flat
      go_wp2_with (go_at_call 54; refine (IX.out _).mono ?_; rintro e w2 ⟨rfl, rfl⟩)
      with_reducible refine (SG.out _ _ _ _ A1.out).mono ?_
      rintro e w2 ⟨rfl, b2⟩
      have R := hid (B1.out.on b2).bel
      clear b2 B1 SG
      go_wp2_with fail
      go_ret2
      exact ⟨rfl, R.out⟩
    · have ix : ¬ 0 ≤ Dr.idx [100, 105] V := fun q => hd (idx_di.1 q)
      have hu : V = 111 ∨ V = 117 ∨ V = 120 ∨ V = 88 := by omega
      have eT : Rn.whT V F W P d = Wh.unsT V F W P (Rn.low d) := by rw [Rn.whT, if_neg hd, if_pos hf]
      obtain ⟨l0, l1⟩ := Rn.low_bd d
      have LO : Hid (∀ wk r os B, Ans B wk r os (Ie.whp (d % 9223372036854775808)) → Calls Tryz.prog 97 #[.bool (decide (9223372036854775808 ≤ d)), .slice r os.length os.length] wk fun e w' => e = .returned (.int .u64 (Rn.low d)) ∧ w' = wk) := fun wk r os B A => rlow_any d r os B wk A (ans_small A 4096 Vb)
      have UN : Hid (∀ wk, Calls Tryz.prog 101 #[.agg #[.int .u8 V, .int .i64 F, .int .i64 W, .int .i64 P], .int .u64 (Rn.low d)] wk fun e w' => e = .returned (.tuple #[.string (strOfNums (Rn.whT V F W P d)), .int .i64 0]) ∧ Below wk.heap.size wk w') := by
        intro wk
        refine (unsigned_any V F W P (Rn.low d) wk v0 v1 l0 l1).mono ?_
        rintro e w' ⟨rfl, k⟩
        have t0 : Wh.unsE V F W P = 0 := by rw [Wh.unsE, if_pos hu, hc]
        exact ⟨by rw [Wh.uns, t0, if_pos rfl, eT], k⟩
      generalize Rn.whT V F W P d = T at *
      generalize Dr.idx [100, 105] V = I at *
      unfold WholeTold at WH
      generalize Rn.low d = L at *
      generalize Ie.whp (d % 9223372036854775808) = U at *
      generalize decide (9223372036854775808 ≤ d) = ng at *
      clear v0 v1 h0 h1 hc hV hf hr V0 Vb hd eT hu l0 l1
      go_enter Tryz.func55, Tryz.ntmps55
      go_wp2_with fail
      with_reducible refine (WH.out _).mono ?_
      rintro e w1 ⟨r, os, rfl, a1, b1⟩
      have B1 := hid (B0.out.on b1)
      have A1 := hid a1
      clear b1 B0 WH a1
      obtain ⟨c0, c1, c2, c3⟩ := B1.out.flat
      go_upto_region 7 with (go_at_call 54; refine (IX.out _).mono ?_; rintro e w2 ⟨rfl, hw⟩; rw [hw]; clear hw w2)
      clear c0 c1 c2 c3 IX ix
      have T1 := hid B1.out.drew
      have LO2 : Hid (Calls Tryz.prog 97 #[.bool ng, .slice r os.length os.length] w1.drew fun e w' => e = .returned (.int .u64 L) ∧ w' = w1.drew) := LO.out _ _ _ _ (A1.out.below (Below.drew (Below.refl _ _)) (Nat.le_refl _))
      go_region_held3 (fun wx => wx.cell? ⟨w.heap.size, 0, none⟩ = some (.int .u8 V) ∧ wx.cell? ⟨w.heap.size, 1, none⟩ = some (.int .i64 F) ∧ wx.cell? ⟨w.heap.size, 2, none⟩ = some (.int .i64 W) ∧ wx.cell? ⟨w.heap.size, 3, none⟩ = some (.int .i64 P)) (first | (with_reducible exact T2.out.flat) | (with_reducible exact T1.out.flat)) (first
        | (go_at_call 97; with_reducible refine LO2.out.mono ?_; rintro e wa ⟨rfl, hw⟩; rw [hw]; clear hw wa)
        | (go_at_call 101; with_reducible refine (UN.out _).mono ?_; rintro e wb ⟨rfl, hB⟩; have T2 := hid (T1.out.on hB); clear hB))
      have R := hid T2.out.bel
      clear UN LO LO2 B1 T1 T2 A1
      go_wp2_with fail
      go_ret2
      exact ⟨rfl, R.out⟩
  · have hf' : Ie.fnt d = false := by simpa using hf
    have WH := hid (fun wk => whole_inf d wk h0 h1 (fin_not.1 hf'))
    have SP : Hid (∀ wk, Calls Tryz.prog 99 #[.agg #[.int .u8 V, .int .i64 F, .int .i64 W, .int .i64 P], .int .u64 d] wk fun e w' => ∃ bl, e = .returned (.tuple #[.string (strOfNums (Rn.whT V F W P d)), .bool bl, .int .i64 0]) ∧ Below wk.heap.size wk w') := by
      intro wk
      refine (special_any V F W P d wk v0 v1 h0 h1).mono ?_
      rintro e w' ⟨rfl, k⟩
      have eT : Rn.whT V F W P d = Po.spc V F W P d := by rw [Rn.whT, if_neg hf]; split <;> rfl
      exact ⟨_, by rw [eT, hc], k⟩
    generalize Rn.whT V F W P d = T at *
    clear v0 v1 h0 h1 hc hV hf hf'
    go_enter Tryz.func55, Tryz.ntmps55
    go_wp2_with fail
    with_reducible refine (WH.out _).mono ?_
    rintro e w1 ⟨rfl, e1⟩
    subst e1
    obtain ⟨c0, c1, c2, c3⟩ := B0.out.flat
    go_wp2_with fail
    with_reducible refine (SP.out _).mono ?_
    rintro e w2 ⟨bl, rfl, b2⟩
    have R := hid (B0.out.on b2).bel
    clear b2 B0 SP WH c0 c1 c2 c3
    go_wp2_with fail
    go_ret2
    exact ⟨rfl, R.out⟩

/-- What charNumbered tells. -/
def Rn.chE (d : Int) : Int := if Ie.fnt d = true then 0 else 5
def Rn.chT (V F W P d : Int) : List Int := if Ie.fnt d = true then Wh.chr V F W P [Rn.low d % 256] else []

set_option maxRecDepth 100000 in
set_option maxHeartbeats 2000000 in
theorem charNum_any (F W P d : Int) (w : World) (h0 : 0 ≤ d) (h1 : d < 18446744073709551616) (hc : Wh.chk F W P = 0) :
    Calls Tryz.prog 53 #[.agg #[.int .u8 99, .int .i64 F, .int .i64 W, .int .i64 P], .int .u64 d] w fun e w' => e = .returned (.tuple #[.string (strOfNums (Rn.chT 99 F W P d)), .int .i64 (Rn.chE d)]) ∧ Below w.heap.size w w' := by
  have B0 := hid (SB.new w 99 F W P)
  by_cases hf : Ie.fnt d = true
  · have hr := fin_iff.1 hf
    obtain ⟨V0, Vb⟩ := Ie.rwhp_bd (d % 9223372036854775808) (by omega) hr
    have WH := hid (fun wk => whole_fin d wk h0 h1 hr)
    obtain ⟨l0, l1⟩ := Rn.low_bd d
    rw [Rn.chT, if_pos hf, Rn.chE, if_pos hf]
    have LO : Hid (∀ wk r os B, Ans B wk r os (Ie.whp (d % 9223372036854775808)) → Calls Tryz.prog 97 #[.bool (decide (9223372036854775808 ≤ d)), .slice r os.length os.length] wk fun e w' => e = .returned (.int .u64 (Rn.low d)) ∧ w' = wk) := fun wk r os B A => rlow_any d r os B wk A (ans_small A 4096 Vb)
    have CH : Hid (∀ wk, Calls Tryz.prog 52 #[.agg #[.int .u8 99, .int .i64 F, .int .i64 W, .int .i64 P], .string (strOfNums [Rn.low d % 256])] wk fun e w' => e = .returned (.tuple #[.string (strOfNums (Wh.chr 99 F W P [Rn.low d % 256])), .int .i64 0]) ∧ Below wk.heap.size wk w') := by
      intro wk
      refine (char_any 99 F W P [Rn.low d % 256] wk (by omega) (by omega) (fun x hx => by simp at hx; omega) (by simp)).mono ?_
      rintro e w' ⟨rfl, k⟩
      exact ⟨by rw [show Wh.chrE 99 F W P = 0 by rw [Wh.chrE, if_pos rfl, hc]], k⟩
    have WR : IntKind.u8.wrap (Rn.low d) = Rn.low d % 256 := by rw [IntKind.wrap_u8]
    generalize Wh.chr 99 F W P [Rn.low d % 256] = T at *
    obtain ⟨M, hM⟩ : ∃ M, Rn.low d % 256 = M := ⟨_, rfl⟩
    rw [hM] at WR CH
    unfold WholeTold at WH
    generalize Rn.low d = L at *
    generalize Ie.whp (d % 9223372036854775808) = U at *
    generalize decide (9223372036854775808 ≤ d) = ng at *
    clear h0 h1 hc hf hr V0 Vb l0 l1 hM
    go_enter Tryz.func53, Tryz.ntmps53
    go_wp2_with fail
    with_reducible refine (WH.out _).mono ?_
    rintro e w1 ⟨r, os, rfl, a1, b1⟩
    have B1 := hid (B0.out.on b1)
    have A1 := hid a1
    clear b1 B0 WH a1
    go_upto_region 4 with fail
    have LO2 : Hid (Calls Tryz.prog 97 #[.bool ng, .slice r os.length os.length] w1.drew fun e w' => e = .returned (.int .u64 L) ∧ w' = w1.drew) := LO.out _ _ _ _ (A1.out.below (Below.drew (Below.refl _ _)) (Nat.le_refl _))
    have CVA : ∀ W' : World, (convert 70 9 (.slice (some ⟨W'.heap.size, 0, none⟩) 1 1)).run Tryz.prog (W'.alloc (.cells #[.int .u8 M] 5)) = .ok (.string (strOfNums [M])) (W'.alloc (.cells #[.int .u8 M] 5)) := fun W' => rone_str (OwnB.alloc W' [M]) rfl
    have CVB : ∀ W' : World, (convert 70 9 (.slice (some ⟨W'.heap.size, 0, none⟩) 1 1)).run Tryz.prog (W'.alloc (.cells #[.int .u8 M] 5)).drew = .ok (.string (strOfNums [M])) (W'.alloc (.cells #[.int .u8 M] 5)).drew := fun W' => rone_str (W := (W'.alloc (.cells #[.int .u8 M] 5)).drew) (OwnB.alloc W' [M]) rfl
    have D1 := hid (B1.out.drew.on (alloc_b w1.drew (.cells #[.int .u8 M] 5)))
    obtain ⟨c0, c1, c2, c3⟩ := B1.out.drew.flat
    obtain ⟨d0, d1, d2, d3⟩ := D1.out.flat
    obtain ⟨f0, f1, f2, f3⟩ : (w1.alloc (.cells #[.int .u8 M] 5)).drew.cell? ⟨w.heap.size, 0, none⟩ = some (.int .u8 99) ∧ (w1.alloc (.cells #[.int .u8 M] 5)).drew.cell? ⟨w.heap.size, 1, none⟩ = some (.int .i64 F) ∧ (w1.alloc (.cells #[.int .u8 M] 5)).drew.cell? ⟨w.heap.size, 2, none⟩ = some (.int .i64 W) ∧ (w1.alloc (.cells #[.int .u8 M] 5)).drew.cell? ⟨w.heap.size, 3, none⟩ = some (.int .i64 P) := D1.out.flat
    have D2 : Hid (SB w w.heap.size 99 F W P (w1.alloc (.cells #[.int .u8 M] 5)).drew) := D1.out
    go_region_with (first
      | (go_at_call 97; with_reducible refine LO2.out.mono ?_; rintro e wa ⟨rfl, hw⟩; rw [hw]; clear hw wa)
      | (go_at_call 52; with_reducible refine (CH.out _).mono ?_; rintro e wb ⟨rfl, hB⟩; first | (have R := hid (D2.out.on hB).bel; clear hB) | (have R := hid (D1.out.on hB).bel; clear hB)))
    all_goals (go_wp2_with fail; go_ret2; exact ⟨rfl, R.out⟩)
  · have hf' : Ie.fnt d = false := by simpa using hf
    have WH := hid (fun wk => whole_inf d wk h0 h1 (fin_not.1 hf'))
    rw [Rn.chT, if_neg hf, Rn.chE, if_neg hf]
    have R := hid B0.out.bel
    clear h0 h1 hc hf hf' B0
    go_enter Tryz.func53, Tryz.ntmps53
    go_wp2_with fail
    with_reducible refine (WH.out _).mono ?_
    rintro e w1 ⟨rfl, e1⟩
    subst e1
    go_wp2_with fail
    go_ret2
    exact ⟨rfl, R.out⟩
end Go.Proofs.YtiflponlioldmaaGreatDoor

namespace Go.Proofs.YtiflponlioldmaaGreatDoor
open Go Go.RowKit Go.Deep Go.Shelf

/-- A Spec's box and an argument's behind it. -/
structure OB (w0 : World) (V F W P : Int) (x : Bool) (n : Int) (s : ByteArray) (wk : World) : Prop where
  bel : Below w0.heap.size w0 wk
  b1 : S4 wk w0.heap.size (.int .u8 V) (.int .i64 F) (.int .i64 W) (.int .i64 P)
  b2 : wk.heap[w0.heap.size + 1]? = some (.cells #[.bool x, .int .u64 n, .string s] 28 (0, 0))
theorem OB.new (w : World) (V F W P : Int) (x : Bool) (n : Int) (s : ByteArray) : OB w V F W P x n s ((w.alloc (.cells #[.int .u8 V, .int .i64 F, .int .i64 W, .int .i64 P] 25)).alloc (.cells #[.bool x, .int .u64 n, .string s] 28)) := by
  have B := SB.new w V F W P
  have A := alloc_b (w.alloc (.cells #[.int .u8 V, .int .i64 F, .int .i64 W, .int .i64 P] 25)) (.cells #[.bool x, .int .u64 n, .string s] 28)
  refine ⟨below_on B.bel A, B.box.below A, ?_⟩
  have := heap_alloc_new (w.alloc (.cells #[.int .u8 V, .int .i64 F, .int .i64 W, .int .i64 P] 25)) (.cells #[.bool x, .int .u64 n, .string s] 28)
  rwa [World.size_alloc] at this
theorem OB.on {w0 wk w' : World} {V F W P : Int} {x : Bool} {n : Int} {s : ByteArray} (h : OB w0 V F W P x n s wk) (k : Below wk.heap.size wk w') : OB w0 V F W P x n s w' := by
  have hl : w0.heap.size + 1 < wk.heap.size := by
    rcases Nat.lt_or_ge (w0.heap.size + 1) wk.heap.size with q | q
    · exact q
    · have := h.b2; rw [Array.getElem?_eq_none q] at this; cases this
  exact ⟨below_on h.bel k, h.b1.below k, by rw [k.block _ hl]; exact h.b2⟩
theorem OB.flat {w0 wk : World} {V F W P : Int} {x : Bool} {n : Int} {s : ByteArray} (h : OB w0 V F W P x n s wk) :
    (wk.cell? ⟨w0.heap.size, 0, none⟩ = some (.int .u8 V) ∧ wk.cell? ⟨w0.heap.size, 1, none⟩ = some (.int .i64 F) ∧ wk.cell? ⟨w0.heap.size, 2, none⟩ = some (.int .i64 W) ∧ wk.cell? ⟨w0.heap.size, 3, none⟩ = some (.int .i64 P)) ∧
    (wk.cell? ⟨w0.heap.size + 1, 0, none⟩ = some (.bool x) ∧ wk.cell? ⟨w0.heap.size + 1, 1, none⟩ = some (.int .u64 n) ∧ wk.cell? ⟨w0.heap.size + 1, 2, none⟩ = some (.string s)) := by
  refine ⟨h.b1.cells.1, ?_, ?_, ?_⟩ <;> rw [Lib.cell_of_heap h.b2] <;> rfl

/-- What One tells. -/
def OneTold (V F W P : Int) (a : Rn.Ag) (w : World) (e : Ending) (w' : World) : Prop := e = .returned (.tuple #[.string (strOfNums (Rn.oneT V F W P a)), .int .i64 (Rn.oneE V F W P a)]) ∧ Below w.heap.size w w'

theorem idx_whole {V : Int} : (0 ≤ Dr.idx [100, 105, 111, 117, 120, 88] V) ↔ (V = 100 ∨ V = 105 ∨ V = 111 ∨ V = 117 ∨ V = 120 ∨ V = 88) := by
  constructor
  · intro h
    iterate 6 (rcases Dr.idx_cons h with h | h; · omega)
    simp [Dr.idx] at h
  · rintro (rfl | rfl | rfl | rfl | rfl | rfl) <;> decide

set_option maxRecDepth 100000 in
set_option maxHeartbeats 2000000 in
theorem one_any (V F W P : Int) (a : Rn.Ag) (w : World) (hT : Tab w) (v0 : 0 ≤ V) (v1 : V < 256) (ha : AgW a) :
    Calls Tryz.prog 22 #[.agg #[.int .u8 V, .int .i64 F, .int .i64 W, .int .i64 P], .agg #[.bool a.x, .int .u64 a.n, .string (strOfNums a.s)]] w fun e w' => OneTold V F W P a w e w' := by
  have CK := hid (fun wk => rcheck_any V F W P wk v0 v1)
  have B0 := hid (OB.new w V F W P a.x a.n (strOfNums a.s))
  by_cases hE : (if Dr.idx Dr.verbs V < 0 then 140 else Wh.chk F W P) ≠ 0
  · -- the Spec is refused
    have G : Hid (∀ w', Below w.heap.size w w' → OneTold V F W P a w (.returned (.tuple #[.string ⟨#[]⟩, .int .i64 (if Dr.idx Dr.verbs V < 0 then 140 else Wh.chk F W P)])) w') := by
      intro w' k
      have e : Rn.oneE V F W P a = (if Dr.idx Dr.verbs V < 0 then 140 else Wh.chk F W P) := by
        rw [Rn.oneE]
        split
        · rfl
        · rename_i q; rw [if_neg q] at hE; rw [if_pos hE]
      exact ⟨by rw [Rn.oneT, e, if_pos hE]; rfl, k⟩
    generalize (if Dr.idx Dr.verbs V < 0 then 140 else Wh.chk F W P) = E at *
    have n1 : (E == 0) = false := by simpa using hE
    have n2 : (E != 0) = true := by simpa using hE
    obtain ⟨ax, an, as_⟩ := a
    simp only at B0 ⊢
    generalize strOfNums as_ = sa at *
    clear v0 v1 ha hT hE
    go_enter Tryz.func22, Tryz.ntmps22
    go_wp2_with fail
    with_reducible refine (CK.out _).mono ?_
    rintro e w1 ⟨rfl, b1⟩
    have R := hid (G.out _ (B0.out.on b1).bel)
    clear b1 B0 CK G
    go_wp2_with fail
    go_ret2
    exact R.out
  · have hE0 : (if Dr.idx Dr.verbs V < 0 then 140 else Wh.chk F W P) = 0 := by simpa using hE
    have hv : ¬ Dr.idx Dr.verbs V < 0 := fun q => by rw [if_pos q] at hE0; omega
    have hc : Wh.chk F W P = 0 := by rw [if_neg hv] at hE0; exact hE0
    rw [hE0] at CK
    clear hE hE0
    have TK := hid (fun wk => takes_any V a.x a.n (strOfNums a.s) wk)
    have EK : Rn.oneE V F W P a = if V ≠ 99 ∧ a.x ≠ decide (V = 115) then 161 else if V = 115 then Wh.texE V F W P a.s else if V = 99 ∧ a.x = false ∧ Ie.fnt a.n = false then 5 else 0 := by
      rw [Rn.oneE, if_neg hv, if_neg (by rw [hc]; decide)]
    by_cases ht : V ≠ 99 ∧ a.x ≠ decide (V = 115)
    · have t0 : (decide (V = 99) || (a.x == decide (V = 115))) = false := by rw [decide_eq_false ht.1, Bool.false_or]; simpa using ht.2
      rw [t0] at TK
      rw [if_pos ht] at EK
      have G : Hid (∀ w', Below w.heap.size w w' → OneTold V F W P a w (.returned (.tuple #[.string ⟨#[]⟩, .int .i64 161])) w') := fun w' k => ⟨by rw [Rn.oneT, EK, if_pos (by decide)]; rfl, k⟩
      obtain ⟨ax, an, as_⟩ := a
      simp only at B0 TK ⊢
      generalize strOfNums as_ = sa at *
      clear v0 v1 ha hT ht t0 hv hc EK
      go_enter Tryz.func22, Tryz.ntmps22
      go_wp2_with fail
      with_reducible refine (CK.out _).mono ?_
      rintro e w1 ⟨rfl, b1⟩
      have B1 := hid (B0.out.on b1)
      clear b1 B0 CK
      obtain ⟨⟨c0, c1, c2, c3⟩, ⟨d0, d1, d2⟩⟩ := B1.out.flat
      go_wp2_with fail
      with_reducible refine (TK.out _).mono ?_
      rintro e w2 ⟨rfl, b2⟩
      have R := hid (G.out _ (B1.out.on b2).bel)
      clear b2 B1 TK G c0 c1 c2 c3 d0 d1 d2
      go_wp2_with fail
      go_ret2
      exact R.out
    · have t0 : (decide (V = 99) || (a.x == decide (V = 115))) = true := by
        by_cases q : V = 99
        · rw [decide_eq_true q, Bool.true_or]
        · rw [decide_eq_false q, Bool.false_or]
          by_cases z : a.x = decide (V = 115)
          · simpa using z
          · exact absurd ⟨q, z⟩ ht
      rw [t0] at TK
      rw [if_neg ht] at EK
      by_cases h5 : V = 115
      · -- a text
        rw [if_pos h5] at EK
        have TX : Hid (∀ wk, Calls Tryz.prog 51 #[.agg #[.int .u8 V, .int .i64 F, .int .i64 W, .int .i64 P], .string (strOfNums a.s)] wk fun e w' => e = .returned (.tuple #[.string (strOfNums (Rn.oneT V F W P a)), .int .i64 (Rn.oneE V F W P a)]) ∧ Below wk.heap.size wk w') := by
          intro wk
          refine (text_any V F W P a.s wk v0 v1 ha.1 (by have := ha.2.2; omega)).mono ?_
          rintro e w' ⟨rfl, k⟩
          refine ⟨?_, k⟩
          rw [EK, Rn.oneT, EK, if_pos h5]
          by_cases z : Wh.texE V F W P a.s ≠ 0
          · rw [if_pos z, Wh.tex, if_neg z]
          · rw [if_neg z]
        have G : Hid (∀ w', Below w.heap.size w w' → OneTold V F W P a w (.returned (.tuple #[.string (strOfNums (Rn.oneT V F W P a)), .int .i64 (Rn.oneE V F W P a)])) w') := fun w' k => ⟨rfl, k⟩
        generalize Rn.oneT V F W P a = T at *
        generalize Rn.oneE V F W P a = E at *
        obtain ⟨ax, an, as_⟩ := a
        simp only at B0 TK TX ⊢
        generalize strOfNums as_ = sa at *
        subst h5
        clear v0 v1 ha hT ht t0 hv hc EK
        go_enter Tryz.func22, Tryz.ntmps22
        go_wp2_with fail
        with_reducible refine (CK.out _).mono ?_
        rintro e w1 ⟨rfl, b1⟩
        have B1 := hid (B0.out.on b1)
        clear b1 B0 CK
        obtain ⟨⟨c0, c1, c2, c3⟩, ⟨d0, d1, d2⟩⟩ := B1.out.flat
        go_wp2_with fail
        with_reducible refine (TK.out _).mono ?_
        rintro e w2 ⟨rfl, b2⟩
        have B2 := hid (B1.out.on b2)
        clear b2 B1 TK c0 c1 c2 c3 d0 d1 d2
        obtain ⟨⟨c0, c1, c2, c3⟩, ⟨d0, d1, d2⟩⟩ := B2.out.flat
        go_wp2_with fail
        with_reducible refine (TX.out _).mono ?_
        rintro e w3 ⟨rfl, b3⟩
        have R := hid (G.out _ (B2.out.on b3).bel)
        clear b3 B2 TX G c0 c1 c2 c3 d0 d1 d2
        go_wp2_with fail
        go_ret2
        exact R.out
      · rw [if_neg h5] at EK
        have n5 : (V == 115) = false := by simpa using h5
        by_cases h9 : V = 99
        · subst h9
          by_cases hx : a.x = true
          · -- the first byte of a text
            have E0 : Rn.oneE 99 F W P a = 0 := by rw [EK, if_neg (by rw [hx]; simp)]
            have CH : Hid (∀ wk, Calls Tryz.prog 52 #[.agg #[.int .u8 99, .int .i64 F, .int .i64 W, .int .i64 P], .string (strOfNums a.s)] wk fun e w' => e = .returned (.tuple #[.string (strOfNums (Rn.oneT 99 F W P a)), .int .i64 0]) ∧ Below wk.heap.size wk w') := by
              intro wk
              refine (char_any 99 F W P a.s wk v0 v1 ha.1 (by have := ha.2.2; omega)).mono ?_
              rintro e w' ⟨rfl, k⟩
              refine ⟨?_, k⟩
              rw [Rn.oneT, E0, if_neg (by decide), if_neg (by decide), if_pos rfl, if_pos hx, show Wh.chrE 99 F W P = 0 by rw [Wh.chrE, if_pos rfl, hc]]
            have G : Hid (∀ w', Below w.heap.size w w' → OneTold 99 F W P a w (.returned (.tuple #[.string (strOfNums (Rn.oneT 99 F W P a)), .int .i64 0])) w') := fun w' k => ⟨by rw [E0], k⟩
            generalize Rn.oneT 99 F W P a = T at *
            obtain ⟨ax, an, as_⟩ := a
            simp only at B0 TK CH hx ⊢
            generalize strOfNums as_ = sa at *
            subst hx
            clear v0 v1 ha hT ht t0 hv hc EK E0 h5
            go_enter Tryz.func22, Tryz.ntmps22
            go_wp2_with fail
            with_reducible refine (CK.out _).mono ?_
            rintro e w1 ⟨rfl, b1⟩
            have B1 := hid (B0.out.on b1)
            clear b1 B0 CK
            obtain ⟨⟨c0, c1, c2, c3⟩, ⟨d0, d1, d2⟩⟩ := B1.out.flat
            go_wp2_with fail
            with_reducible refine (TK.out _).mono ?_
            rintro e w2 ⟨rfl, b2⟩
            have B2 := hid (B1.out.on b2)
            clear b2 B1 TK c0 c1 c2 c3 d0 d1 d2
            obtain ⟨⟨c0, c1, c2, c3⟩, ⟨d0, d1, d2⟩⟩ := B2.out.flat
            go_wp2_with fail
            with_reducible refine (CH.out _).mono ?_
            rintro e w3 ⟨rfl, b3⟩
            have R := hid (G.out _ (B2.out.on b3).bel)
            clear b3 B2 CH G c0 c1 c2 c3 d0 d1 d2
            go_wp2_with fail
            go_ret2
            exact R.out
          · -- the byte of a number
            have hx' : a.x = false := by simpa using hx
            have E0 : Rn.oneE 99 F W P a = Rn.chE a.n := by
              rw [EK, Rn.chE]
              by_cases z : Ie.fnt a.n = true
              · rw [if_pos z, if_neg (by rw [z]; simp)]
              · rw [if_neg z, if_pos ⟨rfl, hx', by simpa using z⟩]
            have T0 : Rn.oneT 99 F W P a = Rn.chT 99 F W P a.n := by
              rw [Rn.oneT, E0, Rn.chT, Rn.chE]
              by_cases z : Ie.fnt a.n = true
              · rw [if_pos z, if_neg (by decide), if_neg (by decide), if_pos rfl, if_neg hx, if_pos z]
              · rw [if_neg z, if_pos (by decide), if_neg z]
            have CH : Hid (∀ wk, Calls Tryz.prog 53 #[.agg #[.int .u8 99, .int .i64 F, .int .i64 W, .int .i64 P], .int .u64 a.n] wk fun e w' => e = .returned (.tuple #[.string (strOfNums (Rn.oneT 99 F W P a)), .int .i64 (Rn.oneE 99 F W P a)]) ∧ Below wk.heap.size wk w') := by
              intro wk
              rw [E0, T0]
              exact charNum_any F W P a.n wk ha.2.1.1 ha.2.1.2 hc
            have G : Hid (∀ w', Below w.heap.size w w' → OneTold 99 F W P a w (.returned (.tuple #[.string (strOfNums (Rn.oneT 99 F W P a)), .int .i64 (Rn.oneE 99 F W P a)])) w') := fun w' k => ⟨rfl, k⟩
            clear E0 T0
            generalize Rn.oneT 99 F W P a = T at *
            generalize Rn.oneE 99 F W P a = E at *
            obtain ⟨ax, an, as_⟩ := a
            simp only at B0 TK CH hx' ⊢
            generalize strOfNums as_ = sa at *
            subst hx'
            clear v0 v1 ha hT ht t0 hv hc EK h5 hx
            go_enter Tryz.func22, Tryz.ntmps22
            go_wp2_with fail
            with_reducible refine (CK.out _).mono ?_
            rintro e w1 ⟨rfl, b1⟩
            have B1 := hid (B0.out.on b1)
            clear b1 B0 CK
            obtain ⟨⟨c0, c1, c2, c3⟩, ⟨d0, d1, d2⟩⟩ := B1.out.flat
            go_wp2_with fail
            with_reducible refine (TK.out _).mono ?_
            rintro e w2 ⟨rfl, b2⟩
            have B2 := hid (B1.out.on b2)
            clear b2 B1 TK c0 c1 c2 c3 d0 d1 d2
            obtain ⟨⟨c0, c1, c2, c3⟩, ⟨d0, d1, d2⟩⟩ := B2.out.flat
            go_wp2_with fail
            with_reducible refine (CH.out _).mono ?_
            rintro e w3 ⟨rfl, b3⟩
            have R := hid (G.out _ (B2.out.on b3).bel)
            clear b3 B2 CH G c0 c1 c2 c3 d0 d1 d2
            go_wp2_with fail
            go_ret2
            exact R.out
        · have n9 : (V == 99) = false := by simpa using h9
          have E0 : Rn.oneE V F W P a = 0 := by rw [EK, if_neg (fun q => h9 q.1)]
          have IX := hid (fun wk => idx_any ⟨#[100, 105, 111, 117, 120, 88]⟩ [100, 105, 111, 117, 120, 88] V wk rfl v0 v1)
          have G : Hid (∀ w', Below w.heap.size w w' → OneTold V F W P a w (.returned (.tuple #[.string (strOfNums (Rn.oneT V F W P a)), .int .i64 0])) w') := fun w' k => ⟨by rw [E0], k⟩
          by_cases hw : V = 100 ∨ V = 105 ∨ V = 111 ∨ V = 117 ∨ V = 120 ∨ V = 88
          · have ix := idx_whole.2 hw
            have WP : Hid (∀ wk, Calls Tryz.prog 55 #[.agg #[.int .u8 V, .int .i64 F, .int .i64 W, .int .i64 P], .int .u64 a.n] wk fun e w' => e = .returned (.tuple #[.string (strOfNums (Rn.oneT V F W P a)), .int .i64 0]) ∧ Below wk.heap.size wk w') := by
              intro wk
              have T0 : Rn.oneT V F W P a = Rn.whT V F W P a.n := by
                rw [Rn.oneT, E0, if_neg (by decide), if_neg h5, if_neg h9, Rn.whT]
                by_cases z : V = 100 ∨ V = 105
                · rw [if_pos z, if_pos z]
                · rw [if_neg z, if_neg z, if_pos (by omega)]
              rw [T0]
              exact wholePart_any V F W P a.n wk v0 v1 ha.2.1.1 ha.2.1.2 hc hw
            generalize Rn.oneT V F W P a = T at *
            generalize Dr.idx [100, 105, 111, 117, 120, 88] V = I at *
            obtain ⟨ax, an, as_⟩ := a
            simp only at B0 TK WP ⊢
            generalize strOfNums as_ = sa at *
            clear v0 v1 ha hT ht t0 hv hc EK h5 h9 hw E0
            go_enter Tryz.func22, Tryz.ntmps22
            go_wp2_with fail
            with_reducible refine (CK.out _).mono ?_
            rintro e w1 ⟨rfl, b1⟩
            have B1 := hid (B0.out.on b1)
            clear b1 B0 CK
            obtain ⟨⟨c0, c1, c2, c3⟩, ⟨d0, d1, d2⟩⟩ := B1.out.flat
            go_wp2_with fail
            with_reducible refine (TK.out _).mono ?_
            rintro e w2 ⟨rfl, b2⟩
            have B2 := hid (B1.out.on b2)
            clear b2 B1 TK c0 c1 c2 c3 d0 d1 d2
            obtain ⟨⟨c0, c1, c2, c3⟩, ⟨d0, d1, d2⟩⟩ := B2.out.flat
            go_wp2_with (go_at_call 54; refine (IX.out _).mono ?_; rintro e w4 ⟨rfl, rfl⟩)
            with_reducible refine (WP.out _).mono ?_
            rintro e w3 ⟨rfl, b3⟩
            have R := hid (G.out _ (B2.out.on b3).bel)
            clear b3 B2 WP G c0 c1 c2 c3 d0 d1 d2
            go_wp2_with fail
            go_ret2
            exact R.out
          · have ix : ¬ 0 ≤ Dr.idx [100, 105, 111, 117, 120, 88] V := fun q => hw (idx_whole.1 q)
            have hok : Po.okV V = true := by
              have := Dr.verb_cases (c := V) (by omega)
              simp only [Po.okV, decide_eq_true_eq]; omega
            have RE : Hid (∀ wk, Tab wk → Calls Tryz.prog 56 #[.agg #[.int .u8 V, .int .i64 F, .int .i64 W, .int .i64 P], .int .u64 a.n] wk fun e w' => e = .returned (.tuple #[.string (strOfNums (Rn.oneT V F W P a)), .int .i64 0]) ∧ Below wk.heap.size wk w') := by
              intro wk k
              have T0 : Rn.oneT V F W P a = Po.ren V F W P a.n := by
                rw [Rn.oneT, E0, if_neg (by decide), if_neg h5, if_neg h9, if_neg (by omega), if_neg (by omega)]
              rw [T0]
              refine (render_any V F W P a.n wk k v0 v1 ha.2.1.1 ha.2.1.2).mono ?_
              rintro e w' ⟨rfl, b⟩
              exact ⟨by rw [Po.renE, if_pos hok, hc], b⟩
            have TB : Hid (∀ wk, Below w.heap.size w wk → Tab wk) := fun wk k => hT.below k
            generalize Rn.oneT V F W P a = T at *
            generalize Dr.idx [100, 105, 111, 117, 120, 88] V = I at *
            obtain ⟨ax, an, as_⟩ := a
            simp only at B0 TK RE ⊢
            generalize strOfNums as_ = sa at *
            clear v0 v1 ha hT ht t0 hv hc EK h5 h9 hw E0 hok
            go_enter Tryz.func22, Tryz.ntmps22
            go_wp2_with fail
            with_reducible refine (CK.out _).mono ?_
            rintro e w1 ⟨rfl, b1⟩
            have B1 := hid (B0.out.on b1)
            clear b1 B0 CK
            obtain ⟨⟨c0, c1, c2, c3⟩, ⟨d0, d1, d2⟩⟩ := B1.out.flat
            go_wp2_with fail
            with_reducible refine (TK.out _).mono ?_
            rintro e w2 ⟨rfl, b2⟩
            have B2 := hid (B1.out.on b2)
            have T2 := hid (TB.out _ B2.out.bel)
            clear b2 B1 TK c0 c1 c2 c3 d0 d1 d2 TB
            obtain ⟨⟨c0, c1, c2, c3⟩, ⟨d0, d1, d2⟩⟩ := B2.out.flat
            go_wp2_with (go_at_call 54; refine (IX.out _).mono ?_; rintro e w4 ⟨rfl, rfl⟩)
            with_reducible refine (RE.out _ T2.out).mono ?_
            rintro e w3 ⟨rfl, b3⟩
            have R := hid (G.out _ (B2.out.on b3).bel)
            clear b3 B2 RE G c0 c1 c2 c3 d0 d1 d2 T2
            go_wp2_with fail
            go_ret2
            exact R.out
end Go.Proofs.YtiflponlioldmaaGreatDoor
