/-
  Texts put together: PoPadN, PoE, PoLaw0.
-/
import Derived.Test.YtaoaniigbooihabGreatDoorRF
import Derived.Test.YtaoaniigbooihabGreatDoorRH
namespace Go.Proofs.YtaoaniigbooihabGreatDoor
open Go Go.RowKit Go.Deep
namespace Po

/-- What is padded. -/
noncomputable def tb (V F P d : Int) : List Int := if Ie.fnt d = true then bd V (Wh.bit F 8) P d else nm (cap V) (Ie.cls d)
theorem ren_pad {V F W P d : Int} (h : renE V F W P = 0) : ren V F W P d = Wh.padT F W (Ie.fnt d) (Wh.sgn F (ng d)) (tb V F P d) := by
  unfold ren tb
  rw [if_pos h]
  by_cases c : Ie.fnt d = true
  · rw [if_pos c, if_pos c, c]
  · rw [if_neg c, if_neg c, show Ie.fnt d = false by simpa using c]
theorem renE_ok {V F W P : Int} (h : renE V F W P = 0) : okV V = true ∧ Wh.chk F W P = 0 := by
  unfold renE at h
  split at h
  · next c => exact ⟨c, h⟩
  · omega
theorem renE_zero {V F W P : Int} (h : renE V F W P = 0) : renE V F 0 P = 0 := by
  obtain ⟨a, b⟩ := renE_ok h
  obtain ⟨f, w, p⟩ := Wh.chk_ok b
  unfold renE
  rw [if_pos a]
  exact Wh.chk_of ⟨f, by omega, p⟩
theorem cls_of {d : Int} (h : Ie.fnt d = false) : Ie.cls d = 3 ∨ Ie.cls d = 4 := by
  unfold Ie.fnt at h
  rw [decide_eq_false_iff_not] at h
  unfold Ie.cls at *
  split at h
  · split at h <;> omega
  · split at h
    · rename_i a b
      rw [if_neg a, if_pos b]
      split <;> omega
    · omega
theorem sgn_bit {F G : Int} (b : Bool) (h2 : Wh.bit F 2 = Wh.bit G 2) (h4 : Wh.bit F 4 = Wh.bit G 4) : Wh.sgn F b = Wh.sgn G b := by unfold Wh.sgn; rw [h2, h4]
theorem tb_bit {V F G P d : Int} (h : Wh.bit F 8 = Wh.bit G 8) : tb V F P d = tb V G P d := by unfold tb; rw [h]

/-- Digits ahead, whatever follows. -/
theorem wrt_head {a b p : List Int} {h : Bool} (ha : Digs a) (hne : a ≠ []) : ∃ x ys, wrt a b p h = x :: ys ∧ 48 ≤ x ∧ x ≤ 57 := by
  match a, hne with
  | x :: l, _ =>
    unfold wrt
    have := ha x (by simp)
    split
    · exact ⟨x, l ++ p, rfl, this⟩
    · exact ⟨x, l ++ 46 :: (b ++ p), rfl, this⟩
theorem take1 {xs : List Int} (h : 1 ≤ xs.length) : xs.take 1 ≠ [] := by
  intro c
  have : (xs.take 1).length = 0 := by rw [c]; rfl
  rw [List.length_take] at this
  omega
theorem bd_head {V P d : Int} (h : Bool) (hf : Ie.fnt d = true) (p0 : -1 ≤ P) (p1 : P ≤ 4096) : ∃ x ys, bd V h P d = x :: ys ∧ 48 ≤ x ∧ x ≤ 57 := by
  obtain ⟨q0, q1⟩ := pr_bd p0 p1
  unfold bd
  split
  · have k := plF hf q0 (by omega)
    exact wrt_head k.a k.ane
  · split
    · have k := fgF hf (n := pr P + 1) (by omega) (by omega)
      exact wrt_head (digs_take k.s _) (take1 (by have := k.len; omega))
    · have k := fgF hf (n := max (pr P) 1) (by omega) (by omega)
      unfold bdG
      split
      · rename_i g
        have j := plF hf (n := max (pr P) 1 - 1 - Fx.gK d (max (pr P) 1)) (by omega) (by omega)
        exact wrt_head j.a j.ane
      · exact wrt_head (digs_take k.s _) (take1 (by have := k.len; omega))
theorem nm_head {c : Bool} {k : Int} (h : k = 3 ∨ k = 4) : ∃ x ys, nm c k = x :: ys ∧ 48 ≤ x ∧ x ≤ 122 := by
  unfold nm
  rcases h with rfl | rfl
  · rw [if_pos rfl]; cases c
    · exact ⟨_, _, if_neg Bool.false_ne_true, by omega, by omega⟩
    · exact ⟨_, _, if_pos rfl, by omega, by omega⟩
  · rw [if_neg (by decide), if_pos rfl]; cases c
    · exact ⟨_, _, if_neg Bool.false_ne_true, by omega, by omega⟩
    · exact ⟨_, _, if_pos rfl, by omega, by omega⟩
theorem tb_head {V F P d : Int} (p0 : -1 ≤ P) (p1 : P ≤ 4096) : ∃ x ys, tb V F P d = x :: ys ∧ 48 ≤ x ∧ x ≤ 122 := by
  unfold tb
  split
  · next c =>
    obtain ⟨x, ys, e, a, b⟩ := bd_head (V := V) (Wh.bit F 8) c p0 p1
    exact ⟨x, ys, e, a, by omega⟩
  · next c => exact nm_head (cls_of (by simpa using c))
theorem tb_ok {V F P d : Int} (p0 : -1 ≤ P) (p1 : P ≤ 4096) : Wh.By (tb V F P d) ∧ (tb V F P d).length ≤ 20000 := by
  unfold tb
  split
  · next c => exact bd_ok _ c p0 p1
  · exact ⟨nm_by _ _, by have := nm_len (cap V) (Ie.cls d); omega⟩
theorem ren_len {V F W P d : Int} : (ren V F W P d).length ≤ 30000 ∧ Wh.By (ren V F W P d) := by
  by_cases h : renE V F W P = 0
  · obtain ⟨-, b⟩ := renE_ok h
    obtain ⟨f, w, p⟩ := Wh.chk_ok b
    have k := tb_ok (V := V) (F := F) (d := d) p.1 p.2
    have s := Wh.sgn_len F (ng d)
    rw [ren_pad h]
    refine ⟨?_, Wh.padT_by (Wh.sgn_by _ _) k.1⟩
    rw [Wh.padT_len]
    omega
  · unfold ren
    rw [if_neg h]
    exact ⟨by simp, Wh.By.nil⟩

/-- Small letters. -/
def low (x : Int) : Int := if 65 ≤ x ∧ x ≤ 90 then x + 32 else x
theorem low_id {x : Int} (h : ¬ (65 ≤ x ∧ x ≤ 90)) : low x = x := if_neg h
theorem map_id {xs : List Int} (h : ∀ x ∈ xs, ¬ (65 ≤ x ∧ x ≤ 90)) : xs.map low = xs := by
  induction xs with
  | nil => rfl
  | cons x l ih => rw [List.map_cons, low_id (h x (by simp)), ih (fun y hy => h y (by simp [hy]))]
theorem map_digs {xs : List Int} (h : Digs xs) : xs.map low = xs := map_id (fun x hx => by have := h x hx; omega)
theorem map_rep {c n : Int} (h : c = 32 ∨ c = 48) : (Wh.rep c n).map low = Wh.rep c n := map_id (fun x hx => by
  rw [Wh.rep, List.mem_replicate] at hx; omega)
theorem map_sgn (F : Int) (b : Bool) : (Wh.sgn F b).map low = Wh.sgn F b := map_id (fun x hx => by
  unfold Wh.sgn at hx
  split at hx
  · simp at hx; omega
  · split at hx
    · simp at hx; omega
    · split at hx
      · simp at hx; omega
      · simp at hx)
theorem xd_small {k : Int} (h0 : -400 ≤ k) (h1 : k ≤ 400) : ∀ x ∈ xd k, 43 ≤ x ∧ x ≤ 57 := by
  rw [xd_is h0 h1]
  intro x hx
  rcases List.mem_cons.1 hx with rfl | q
  · split <;> omega
  · have := Fx.tx_digs _ _ x q; omega
theorem map_ex {V v k : Int} (hV : cap V = true) (hv : cap v = false) (h0 : -400 ≤ k) (h1 : k ≤ 400) : (ex V k).map low = ex v k := by
  unfold ex
  rw [hV, hv, if_pos rfl, if_neg Bool.false_ne_true, List.map_cons, map_id (fun x hx => by have := xd_small h0 h1 x hx; omega)]
  rfl
theorem map_wrt {a b p q : List Int} {h : Bool} (ha : Digs a) (hb : Digs b) (hp : p.map low = q) : (wrt a b p h).map low = wrt a b q h := by
  unfold wrt
  split
  · rw [List.map_append, map_digs ha, hp]
  · rw [List.map_append, List.map_cons, List.map_append, map_digs ha, map_digs hb, hp]
    rfl
theorem map_bd {V P d : Int} (h : Bool) (hf : Ie.fnt d = true) (p0 : -1 ≤ P) (p1 : P ≤ 4096) (hV : V = 69 ∨ V = 70 ∨ V = 71) : (bd V h P d).map low = bd (V + 32) h P d := by
  obtain ⟨q0, q1⟩ := pr_bd p0 p1
  have cV : cap V = true := by unfold cap; rw [decide_eq_true_iff]; omega
  have cv : cap (V + 32) = false := by unfold cap; rw [decide_eq_false_iff_not]; omega
  unfold bd
  by_cases hF : V = 102 ∨ V = 70
  · rw [if_pos hF, if_pos (show V + 32 = 102 ∨ V + 32 = 70 by omega)]
    have k := plF hf q0 (by omega)
    exact map_wrt k.a k.b rfl
  · rw [if_neg hF, if_neg (show ¬ (V + 32 = 102 ∨ V + 32 = 70) by omega)]
    by_cases hE : V = 101 ∨ V = 69
    · rw [if_pos hE, if_pos (show V + 32 = 101 ∨ V + 32 = 69 by omega)]
      have k := fgF hf (n := pr P + 1) (by omega) (by omega)
      exact map_wrt (digs_take k.s _) (digs_drop k.s _) (map_ex cV cv (by have := k.lo; omega) (by have := k.hi; omega))
    · rw [if_neg hE, if_neg (show ¬ (V + 32 = 101 ∨ V + 32 = 69) by omega)]
      have k := fgF hf (n := max (pr P) 1) (by omega) (by omega)
      unfold bdG
      by_cases g : -4 ≤ Fx.gK d (max (pr P) 1) ∧ Fx.gK d (max (pr P) 1) < max (pr P) 1
      · rw [if_pos g, if_pos g]
        have j := plF hf (n := max (pr P) 1 - 1 - Fx.gK d (max (pr P) 1)) (by omega) (by omega)
        exact map_wrt j.a (digs_st h j.b) rfl
      · rw [if_neg g, if_neg g]
        exact map_wrt (digs_take k.s _) (digs_st h (digs_drop k.s _)) (map_ex cV cv (by have := k.lo; omega) (by have := k.hi; omega))
theorem map_tb {V F P d : Int} (p0 : -1 ≤ P) (p1 : P ≤ 4096) (hV : V = 69 ∨ V = 70 ∨ V = 71) : (tb V F P d).map low = tb (V + 32) F P d := by
  have cV : cap V = true := by unfold cap; rw [decide_eq_true_iff]; omega
  have cv : cap (V + 32) = false := by unfold cap; rw [decide_eq_false_iff_not]; omega
  unfold tb
  by_cases c : Ie.fnt d = true
  · rw [if_pos c, if_pos c]; exact map_bd _ c p0 p1 hV
  · rw [if_neg c, if_neg c, cV, cv]
    rcases cls_of (show Ie.fnt d = false by simpa using c) with e | e <;> rw [e] <;> rfl
theorem map_pad {F W : Int} {z : Bool} {h b c : List Int} (hh : h.map low = h) (hb : b.map low = c) : (Wh.padT F W z h b).map low = Wh.padT F W z h c := by
  have l : (b.length : Int) = c.length := by rw [← hb, List.length_map]
  unfold Wh.padT
  rw [l]
  split
  · rw [List.map_append, List.map_append, hh, hb, map_rep (.inl rfl)]
  · split
    · rw [List.map_append, List.map_append, hh, hb, map_rep (.inr rfl)]
    · rw [List.map_append, List.map_append, hh, hb, map_rep (.inl rfl)]
theorem map_ren {V F W P d : Int} (hV : V = 69 ∨ V = 70 ∨ V = 71) : (ren V F W P d).map low = ren (V + 32) F W P d := by
  have oV : okV V = true := by unfold okV; rw [decide_eq_true_iff]; omega
  have ov : okV (V + 32) = true := by unfold okV; rw [decide_eq_true_iff]; omega
  have e : renE V F W P = renE (V + 32) F W P := by unfold renE; rw [if_pos oV, if_pos ov]
  by_cases h : renE V F W P = 0
  · obtain ⟨-, b⟩ := renE_ok h
    obtain ⟨f, w, p⟩ := Wh.chk_ok b
    rw [ren_pad h, ren_pad (by rw [← e]; exact h)]
    exact map_pad (map_sgn _ _) (map_tb p.1 p.2 hV)
  · unfold ren
    rw [if_neg h, if_neg (by rw [← e]; exact h)]
    rfl
/-- No small letter. -/
def NoS (xs : List Int) : Prop := ∀ x ∈ xs, ¬ (97 ≤ x ∧ x ≤ 122)
theorem NoS.app {a b : List Int} (h : NoS a) (k : NoS b) : NoS (a ++ b) := by
  intro x hx
  rcases List.mem_append.1 hx with q | q
  · exact h x q
  · exact k x q
theorem NoS.digs {a : List Int} (h : Digs a) : NoS a := fun x hx => by have := h x hx; omega
theorem NoS.cons {c : Int} {a : List Int} (h0 : ¬ (97 ≤ c ∧ c ≤ 122)) (h : NoS a) : NoS (c :: a) := by
  intro x hx
  rcases List.mem_cons.1 hx with q | q
  · rw [q]; exact h0
  · exact h x q
theorem NoS.nil : NoS [] := by intro x h; simp at h
theorem nos_rep {c n : Int} (h : c = 32 ∨ c = 48) : NoS (Wh.rep c n) := fun x hx => by rw [Wh.rep, List.mem_replicate] at hx; omega
theorem nos_sgn (F : Int) (b : Bool) : NoS (Wh.sgn F b) := fun x hx => by
  unfold Wh.sgn at hx
  split at hx
  · simp at hx; omega
  · split at hx
    · simp at hx; omega
    · split at hx
      · simp at hx; omega
      · simp at hx
theorem nos_ex {V k : Int} (hV : cap V = true) (h0 : -400 ≤ k) (h1 : k ≤ 400) : NoS (ex V k) := by
  unfold ex
  rw [hV, if_pos rfl]
  exact NoS.cons (by omega) (fun x hx => by have := xd_small h0 h1 x hx; omega)
theorem nos_wrt {a b p : List Int} {h : Bool} (ha : Digs a) (hb : Digs b) (hp : NoS p) : NoS (wrt a b p h) := by
  unfold wrt
  split
  · exact (NoS.digs ha).app hp
  · exact (NoS.digs ha).app (NoS.cons (by omega) ((NoS.digs hb).app hp))
theorem nos_bd {V P d : Int} (h : Bool) (hf : Ie.fnt d = true) (p0 : -1 ≤ P) (p1 : P ≤ 4096) (hV : V = 69 ∨ V = 70 ∨ V = 71) : NoS (bd V h P d) := by
  obtain ⟨q0, q1⟩ := pr_bd p0 p1
  have cV : cap V = true := by unfold cap; rw [decide_eq_true_iff]; omega
  unfold bd
  split
  · have k := plF hf q0 (by omega)
    exact nos_wrt k.a k.b NoS.nil
  · split
    · have k := fgF hf (n := pr P + 1) (by omega) (by omega)
      exact nos_wrt (digs_take k.s _) (digs_drop k.s _) (nos_ex cV (by have := k.lo; omega) (by have := k.hi; omega))
    · have k := fgF hf (n := max (pr P) 1) (by omega) (by omega)
      unfold bdG
      split
      · rename_i g
        have j := plF hf (n := max (pr P) 1 - 1 - Fx.gK d (max (pr P) 1)) (by omega) (by omega)
        exact nos_wrt j.a (digs_st h j.b) NoS.nil
      · exact nos_wrt (digs_take k.s _) (digs_st h (digs_drop k.s _)) (nos_ex cV (by have := k.lo; omega) (by have := k.hi; omega))
theorem nos_tb {V F P d : Int} (p0 : -1 ≤ P) (p1 : P ≤ 4096) (hV : V = 69 ∨ V = 70 ∨ V = 71) : NoS (tb V F P d) := by
  have cV : cap V = true := by unfold cap; rw [decide_eq_true_iff]; omega
  unfold tb
  by_cases c : Ie.fnt d = true
  · rw [if_pos c]; exact nos_bd _ c p0 p1 hV
  · rw [if_neg c, cV]
    rcases cls_of (show Ie.fnt d = false by simpa using c) with e | e <;> rw [e] <;> (intro x hx; simp [nm] at hx; omega)
theorem nos_ren {V F W P d : Int} (hV : V = 69 ∨ V = 70 ∨ V = 71) : NoS (ren V F W P d) := by
  by_cases h : renE V F W P = 0
  · obtain ⟨-, b⟩ := renE_ok h
    obtain ⟨f, w, p⟩ := Wh.chk_ok b
    rw [ren_pad h]
    have k := nos_tb (V := V) (F := F) (d := d) p.1 p.2 hV
    unfold Wh.padT
    split
    · exact ((nos_sgn _ _).app k).app (nos_rep (.inl rfl))
    · split
      · exact ((nos_sgn _ _).app (nos_rep (.inr rfl))).app k
      · exact ((nos_rep (.inl rfl)).app (nos_sgn _ _)).app k
  · unfold ren
    rw [if_neg h]
    exact NoS.nil
end Po
end Go.Proofs.YtaoaniigbooihabGreatDoor

namespace Go.Proofs.YtaoaniigbooihabGreatDoor
open Go Go.RowKit Go.Deep Go.Shelf

def SpcTold (V F W P d : Int) (w : World) (e : Ending) (w' : World) : Prop := e = .returned (.tuple #[.string (strOfNums (Po.spc V F W P d)), .bool (Po.spb F W P d), .int .i64 (Wh.chk F W P)]) ∧ Below w.heap.size w w'
def RenTold (V F W P d : Int) (w : World) (e : Ending) (w' : World) : Prop := e = .returned (.tuple #[.string (strOfNums (Po.ren V F W P d)), .int .i64 (Po.renE V F W P)]) ∧ Below w.heap.size w w'

theorem pad_small {F W P : Int} {z : Bool} {h b : List Int} (hl : h.length + b.length ≤ 16777216) : Wh.padE F W P h b = Wh.chk F W P ∧ Wh.pad F W P z h b = (if Wh.chk F W P = 0 then Wh.padT F W z h b else []) := by
  have e : Wh.padE F W P h b = Wh.chk F W P := by
    unfold Wh.padE
    by_cases c : Wh.chk F W P = 0
    · rw [if_pos c, if_neg (by omega), c]
    · rw [if_neg c]
  exact ⟨e, by rw [Wh.pad, e]⟩

set_option maxRecDepth 100000 in
set_option maxHeartbeats 4000000 in
theorem special_any (V F W P d : Int) (w : World) (v0 : 0 ≤ V) (v1 : V < 256) (h0 : 0 ≤ d) (h1 : d < 18446744073709551616) :
    Calls Tryz.prog 7 #[.agg #[.int .u8 V, .int .i64 F, .int .i64 W, .int .i64 P], .int .u64 d] w fun e w' => SpcTold V F W P d w e w' := by
  have B0 := hid (SB.new w V F W P)
  have SG := hid (fun wk => psign_any V F W P d wk h0 h1)
  have NM := hid (fun wk => pname_any V d wk v0 v1 h0 h1)
  have FN := hid (fun wk => pfin_any d wk h0 h1)
  have sb := Po.sx_by F (Po.ng d)
  have nb := Po.nm_by (Po.cap V) (Ie.cls d)
  have nl := Po.nm_len (Po.cap V) (Ie.cls d)
  have PA : Hid (∀ wk, Calls Tryz.prog 11 #[.agg #[.int .u8 V, .int .i64 F, .int .i64 W, .int .i64 P], .string (strOfNums (Po.sx F (Po.ng d))), .string (strOfNums (Po.nm (Po.cap V) (Ie.cls d))), .bool false] wk fun e w' => e = .returned (.tuple #[.string (strOfNums (if Wh.chk F W P = 0 then Wh.padT F W false (Po.sx F (Po.ng d)) (Po.nm (Po.cap V) (Ie.cls d)) else [])), .int .i64 (Wh.chk F W P)]) ∧ Below wk.heap.size wk w') := by
    intro wk
    refine (pad_any V F W P _ _ false wk sb.1 nb (by omega) (by omega)).mono ?_
    rintro e w' ⟨rfl, k⟩
    obtain ⟨e1, e2⟩ := pad_small (F := F) (W := W) (P := P) (z := false) (h := Po.sx F (Po.ng d)) (b := Po.nm (Po.cap V) (Ie.cls d)) (by omega)
    exact ⟨by rw [e1, e2], k⟩
  have G1 : Hid (∀ w' , Wh.chk F W P ≠ 0 → Below w.heap.size w w' → SpcTold V F W P d w (.returned (.tuple #[.string ⟨#[]⟩, .bool false, .int .i64 (Wh.chk F W P)])) w') := by
    intro w' h k
    refine ⟨?_, k⟩
    rw [Po.spc, if_neg (fun q => h q.1), Po.spb, decide_eq_false h]
    rfl
  have G2 : Hid (∀ w' , Wh.chk F W P = 0 → Ie.fnt d = true → Below w.heap.size w w' → SpcTold V F W P d w (.returned (.tuple #[.string ⟨#[]⟩, .bool false, .int .i64 0])) w') := by
    intro w' h f k
    refine ⟨?_, k⟩
    rw [Po.spc, if_neg (fun q => by rw [f] at q; exact Bool.false_ne_true q.2.symm), Po.spb, f, h]
    rfl
  have G3 : Hid (∀ w' , Wh.chk F W P = 0 → Ie.fnt d = false → Below w.heap.size w w' → SpcTold V F W P d w (.returned (.tuple #[.string (strOfNums (if Wh.chk F W P = 0 then Wh.padT F W false (Po.sx F (Po.ng d)) (Po.nm (Po.cap V) (Ie.cls d)) else [])), .bool true, .int .i64 0])) w') := by
    intro w' h f k
    refine ⟨?_, k⟩
    obtain ⟨⟨f0, f1⟩, -, -⟩ := Wh.chk_ok h
    rw [if_pos h, Po.spc, if_pos ⟨h, f⟩, Po.spb, f, h, Po.sx_is _ f0 f1]
    rfl
  generalize (if Wh.chk F W P = 0 then Wh.padT F W false (Po.sx F (Po.ng d)) (Po.nm (Po.cap V) (Ie.cls d)) else []) = T at *
  generalize Po.sx F (Po.ng d) = SX at *
  generalize Po.nm (Po.cap V) (Ie.cls d) = NX at *
  clear v0 v1 h0 h1 sb nb nl
  generalize Wh.chk F W P = E at *
  generalize Ie.fnt d = fd at *
  go_enter Tryz.func7, Tryz.ntmps7
  go_upto_region 1 with fail
  have T1 := hid B0.out.drew
  go_region_held3 (fun wx => wx.cell? ⟨w.heap.size, 0, none⟩ = some (.int .u8 V) ∧ wx.cell? ⟨w.heap.size, 1, none⟩ = some (.int .i64 F) ∧ wx.cell? ⟨w.heap.size, 2, none⟩ = some (.int .i64 W) ∧ wx.cell? ⟨w.heap.size, 3, none⟩ = some (.int .i64 P)) (first | (with_reducible exact T4.out.flat) | (with_reducible exact T3.out.flat) | (with_reducible exact T2.out.flat) | (with_reducible exact T1.out.flat)) (first
    | (go_at_call 12; with_reducible refine (SG.out _).mono ?_; rintro e wa ⟨rfl, hB⟩; have T2 := hid (T1.out.on hB); clear hB)
    | (go_at_call 14; with_reducible refine (NM.out _).mono ?_; rintro e wb ⟨rfl, hB⟩; have T3 := hid (T2.out.on hB); clear hB)
    | (go_at_call 11; with_reducible refine (PA.out _).mono ?_; rintro e wc ⟨rfl, hB⟩; have T4 := hid (T3.out.on hB); clear hB))
  by_cases hE : E = 0
  · subst hE
    cases fd with
    | true =>
      have R := hid (G2.out wc rfl rfl T4.out.bel)
      clear G1 G2 G3
      go_wp2_with (go_at_call 15; refine (FN.out _).mono ?_; rintro e w' ⟨rfl, hw⟩; rw [hw]; clear hw w')
      go_ret3
      exact R.out
    | false =>
      have R := hid (G3.out wc rfl rfl T4.out.bel)
      clear G1 G2 G3
      go_wp2_with (go_at_call 15; refine (FN.out _).mono ?_; rintro e w' ⟨rfl, hw⟩; rw [hw]; clear hw w')
      go_ret3
      exact R.out
  · have hne : (E == 0) = false := by simpa using hE
    have hne2 : (E != 0) = true := by simpa using hE
    have R := hid (G1.out wc hE T4.out.bel)
    clear G1 G2 G3 hE
    go_wp2_with fail
    go_ret3
    exact R.out

set_option maxRecDepth 100000 in
set_option maxHeartbeats 4000000 in
theorem render_any (V F W P d : Int) (w : World) (hT : Tab w) (v0 : 0 ≤ V) (v1 : V < 256) (h0 : 0 ≤ d) (h1 : d < 18446744073709551616) :
    Calls Tryz.prog 6 #[.agg #[.int .u8 V, .int .i64 F, .int .i64 W, .int .i64 P], .int .u64 d] w fun e w' => RenTold V F W P d w e w' := by
  have B0 := hid (SB.new w V F W P)
  have IX := hid (fun w => Any.strings_IndexByte idxLays ⟨#[101, 69, 102, 70, 103, 71]⟩ V w)
  have OK := ok_ix V v0 v1
  obtain ⟨ix, hix⟩ : ∃ ix, Lib.indexByte (⟨#[101, 69, 102, 70, 103, 71]⟩ : ByteArray).data.toList V.toNat.toUInt8 = ix := ⟨_, rfl⟩
  rw [hix] at IX OK
  clear hix
  by_cases hV : Po.okV V = true
  · rw [hV] at OK
    have ix0 : ¬ ix < 0 := by simpa using OK
    have hR : Po.renE V F W P = Wh.chk F W P := by rw [Po.renE, if_pos hV]
    have SP := hid (fun wk => special_any V F W P d wk v0 v1 h0 h1)
    by_cases hc : Wh.chk F W P = 0
    · obtain ⟨⟨f0, f1⟩, -, ⟨p0, p1⟩⟩ := Wh.chk_ok hc
      by_cases hf : Ie.fnt d = true
      · have sp1 : Po.spb F W P d = false := by rw [Po.spb, hf]; simp
        have SG : Hid (∀ wk, Calls Tryz.prog 12 #[.agg #[.int .u8 V, .int .i64 F, .int .i64 W, .int .i64 P], .int .u64 d] wk fun e w' => e = .returned (.string (strOfNums (Wh.sgn F (Po.ng d)))) ∧ Below wk.heap.size wk w') := by
          intro wk
          have q := psign_any V F W P d wk h0 h1
          rw [Po.sx_is _ f0 f1] at q
          exact q
        have TB : Hid (∀ wk, Below w.heap.size w wk → Tab wk) := fun wk k => hT.below k
        have BO := hid (fun wk (k : Tab wk) => pbody_any V F W P d wk k v0 v1 f0 f1 p0 p1 h0 h1 hf)
        obtain ⟨bb, bl⟩ := Po.bd_ok (V := V) (P := P) (d := d) (Wh.bit F 8) hf p0 p1
        have sl := Wh.sgn_len F (Po.ng d)
        have PA : Hid (∀ wk, Calls Tryz.prog 11 #[.agg #[.int .u8 V, .int .i64 F, .int .i64 W, .int .i64 P], .string (strOfNums (Wh.sgn F (Po.ng d))), .string (strOfNums (Po.bd V (Wh.bit F 8) P d)), .bool true] wk fun e w' => e = .returned (.tuple #[.string (strOfNums (Po.ren V F W P d)), .int .i64 0]) ∧ Below wk.heap.size wk w') := by
          intro wk
          refine (pad_any V F W P _ _ true wk (Wh.sgn_by _ _) bb (by omega) (by omega)).mono ?_
          rintro e w' ⟨rfl, k⟩
          obtain ⟨e1, e2⟩ := pad_small (F := F) (W := W) (P := P) (z := true) (h := Wh.sgn F (Po.ng d)) (b := Po.bd V (Wh.bit F 8) P d) (by omega)
          refine ⟨?_, k⟩
          rw [e1, e2, hc, if_pos rfl, Po.ren, hR, if_pos hc, if_pos hf]
        have G : Hid (∀ w', Below w.heap.size w w' → RenTold V F W P d w (.returned (.tuple #[.string (strOfNums (Po.ren V F W P d)), .int .i64 0])) w') := fun w' k => ⟨by rw [hR, hc], k⟩
        unfold SpcTold at SP
        rw [sp1, hc] at SP
        clear hT v0 v1 h0 h1 hV OK hR hc hf f0 f1 p0 p1 bb bl sl sp1
        generalize Po.spc V F W P d = SC at *
        generalize Po.ren V F W P d = RN at *
        generalize Po.bd V (Wh.bit F 8) P d = BD' at *
        generalize Wh.sgn F (Po.ng d) = SN at *
        go_enter Tryz.func6, Tryz.ntmps6
        go_wp2_with (go_at_call 10; refine (IX.out _).mono ?_; rintro e w2 ⟨rfl, rfl⟩)
        with_reducible refine (SP.out _).mono ?_
        rintro e w1 ⟨rfl, b1⟩
        have B1 := hid (B0.out.on b1)
        clear b1 B0 SP IX
        obtain ⟨c0, c1, c2, c3⟩ := B1.out.flat
        go_upto_region 6 with fail
        clear c0 c1 c2 c3
        have T1 := hid B1.out.drew
        go_region_held3 (fun wx => wx.cell? ⟨w.heap.size, 0, none⟩ = some (.int .u8 V) ∧ wx.cell? ⟨w.heap.size, 1, none⟩ = some (.int .i64 F) ∧ wx.cell? ⟨w.heap.size, 2, none⟩ = some (.int .i64 W) ∧ wx.cell? ⟨w.heap.size, 3, none⟩ = some (.int .i64 P)) (first | (with_reducible exact T4.out.flat) | (with_reducible exact T3.out.flat) | (with_reducible exact T2.out.flat) | (with_reducible exact T1.out.flat)) (first
          | (go_at_call 12; with_reducible refine (SG.out _).mono ?_; rintro e wa ⟨rfl, hB⟩; have T2 := hid (T1.out.on hB); have K2 := hid (TB.out _ T2.out.bel); clear hB)
          | (go_at_call 13; with_reducible refine (BO.out _ K2.out).mono ?_; rintro e wb ⟨rfl, hB⟩; have T3 := hid (T2.out.on hB); clear hB)
          | (go_at_call 11; with_reducible refine (PA.out _).mono ?_; rintro e wc ⟨rfl, hB⟩; have T4 := hid (T3.out.on hB); clear hB))
        go_wp2_with fail
        go_ret2
        exact G.out _ T4.out.bel
      · have hf' : Ie.fnt d = false := by simpa using hf
        have sp1 : Po.spb F W P d = true := by rw [Po.spb, hf', hc]; rfl
        have sp2 : Po.spc V F W P d = Po.ren V F W P d := by rw [Po.spc, if_pos ⟨hc, hf'⟩, Po.ren, hR, if_pos hc, if_neg hf]
        have G : Hid (∀ w', Below w.heap.size w w' → RenTold V F W P d w (.returned (.tuple #[.string (strOfNums (Po.ren V F W P d)), .int .i64 0])) w') := fun w' k => ⟨by rw [hR, hc], k⟩
        unfold SpcTold at SP
        rw [sp1, sp2, hc] at SP
        clear hT v0 v1 h0 h1 hV OK hR hc hf hf' f0 f1 p0 p1 sp1 sp2
        generalize Po.ren V F W P d = RN at *
        go_enter Tryz.func6, Tryz.ntmps6
        go_wp2_with (go_at_call 10; refine (IX.out _).mono ?_; rintro e w2 ⟨rfl, rfl⟩)
        with_reducible refine (SP.out _).mono ?_
        rintro e w1 ⟨rfl, b1⟩
        have R := hid (G.out _ (B0.out.on b1).bel)
        clear b1 B0 SP IX G
        go_wp2_with fail
        go_ret2
        exact R.out
    · have sp1 : Po.spb F W P d = false := by rw [Po.spb, decide_eq_false hc]; rfl
      have sp2 : Po.spc V F W P d = Po.ren V F W P d := by rw [Po.spc, if_neg (fun q => hc q.1), Po.ren, hR, if_neg hc]
      have G : Hid (∀ w', Below w.heap.size w w' → RenTold V F W P d w (.returned (.tuple #[.string (strOfNums (Po.ren V F W P d)), .int .i64 (Wh.chk F W P)])) w') := fun w' k => ⟨by rw [hR], k⟩
      unfold SpcTold at SP
      rw [sp1, sp2] at SP
      have hne : (Wh.chk F W P == 0) = false := by simpa using hc
      have hne2 : (Wh.chk F W P != 0) = true := by simpa using hc
      clear hT v0 v1 h0 h1 hV OK hR hc sp1 sp2
      generalize Po.ren V F W P d = RN at *
      generalize Wh.chk F W P = E at *
      go_enter Tryz.func6, Tryz.ntmps6
      go_wp2_with (go_at_call 10; refine (IX.out _).mono ?_; rintro e w2 ⟨rfl, rfl⟩)
      with_reducible refine (SP.out _).mono ?_
      rintro e w1 ⟨rfl, b1⟩
      have R := hid (G.out _ (B0.out.on b1).bel)
      clear b1 B0 SP IX G
      go_wp2_with fail
      go_ret2
      exact R.out
  · have hV' : Po.okV V = false := by simpa using hV
    rw [hV'] at OK
    have ix0 : ix < 0 := by simpa using OK
    have hR : Po.renE V F W P = 140 := by rw [Po.renE, if_neg hV]
    have G : Hid (∀ w', Below w.heap.size w w' → RenTold V F W P d w (.returned (.tuple #[.string ⟨#[]⟩, .int .i64 140])) w') := fun w' k => ⟨by rw [Po.ren, hR, if_neg (by decide)]; rfl, k⟩
    have R := hid (G.out _ B0.out.bel)
    clear hT v0 v1 h0 h1 hV hV' OK hR G
    go_enter Tryz.func6, Tryz.ntmps6
    go_wp2_with (go_at_call 10; refine (IX.out _).mono ?_; rintro e w2 ⟨rfl, rfl⟩)
    go_ret2
    exact R.out
end Go.Proofs.YtaoaniigbooihabGreatDoor

namespace Go.Proofs.YtaoaniigbooihabGreatDoor
open Go Go.RowKit Go.Deep Go.Shelf
namespace Fx
theorem c15 : X 4609434218613702656 = [49, 53] ∧ P 4609434218613702656 = -1 := by
  obtain ⟨s, D⟩ := dig_c (T := 3 * 5 ^ 1) (xs := [49, 53]) (fun d h => by simp at h; omega) (by decide) (by decide) (by decide) (by decide)
  have m : Ie.dm 4609434218613702656 = 6755399441055744 := by decide
  have e : Ie.de 4609434218613702656 = -52 := by decide
  refine X_of (by rw [m]; omega) ?_
  rw [m, e]
  exact ex_odd (t := 51) (q := 3) (n := 1) (by decide) (by omega) (by decide) (by omega) (by decide) D
theorem c15n : X 13832806255468478464 = [49, 53] ∧ P 13832806255468478464 = -1 := by
  have m : Ie.dm 13832806255468478464 = Ie.dm 4609434218613702656 := by decide
  have e : Ie.de 13832806255468478464 = Ie.de 4609434218613702656 := by decide
  unfold X P
  rw [m, e]
  exact c15
theorem pl15 : pA 4609434218613702656 2 = [49] ∧ pB 4609434218613702656 2 = [53, 48] := by
  have r : rf 4609434218613702656 2 0 = 0 := by decide
  have w : W 4609434218613702656 2 = [49, 53, 48] := by
    unfold W
    rw [c15.1, c15.2]
    decide
  refine ⟨?_, ?_⟩
  · rw [pA, if_pos r, show (2 : Int).toNat = 2 from rfl, w]
    decide
  · rw [pB, if_pos r, show (2 : Int).toNat = 2 from rfl, w]
    decide
theorem pl15n : pA 13832806255468478464 2 = [49] ∧ pB 13832806255468478464 2 = [53, 48] := by
  have r : rf 13832806255468478464 2 0 = 0 := by decide
  have w : W 13832806255468478464 2 = [49, 53, 48] := by
    unfold W
    rw [c15n.1, c15n.2]
    decide
  refine ⟨?_, ?_⟩
  · rw [pA, if_pos r, show (2 : Int).toNat = 2 from rfl, w]
    decide
  · rw [pB, if_pos r, show (2 : Int).toNat = 2 from rfl, w]
    decide
end Fx
namespace Po
theorem ren15n : ren 102 18 8 2 13832806255468478464 = [45, 48, 48, 48, 49, 46, 53, 48] ∧ renE 102 18 8 2 = 0 := by
  have r : renE 102 18 8 2 = 0 := by decide
  refine ⟨?_, r⟩
  rw [ren, if_pos r, if_pos (by decide), bd, if_pos (by decide), show pr 2 = 2 from rfl, bdF, Fx.pl15n.1, Fx.pl15n.2]
  decide
theorem ren15 : ren 102 18 8 2 4609434218613702656 = [43, 48, 48, 48, 49, 46, 53, 48] := by
  have r : renE 102 18 8 2 = 0 := by decide
  rw [ren, if_pos r, if_pos (by decide), bd, if_pos (by decide), show pr 2 = 2 from rfl, bdF, Fx.pl15.1, Fx.pl15.2]
  decide
theorem spcinf : spc 69 0 6 (-1) 18442240474082181120 = [32, 32, 45, 73, 78, 70] ∧ spb 0 6 (-1) 18442240474082181120 = true ∧ Wh.chk 0 6 (-1) = 0 := by
  refine ⟨?_, ?_, ?_⟩ <;> decide
end Po

set_option maxRecDepth 100000 in
set_option maxHeartbeats 2000000 in
theorem pawake_any (w : World) (hT : Tab w) : Calls Tryz.prog 4 #[] w fun e w' => e = .returned (.bool true) ∧ Below w.heap.size w w' := by
  have TB : Hid (∀ wk, Below w.heap.size w wk → Tab wk) := fun wk k => hT.below k
  have A1 : Hid (∀ wk, Tab wk → Calls Tryz.prog 6 #[.agg #[.int .u8 102, .int .i64 18, .int .i64 8, .int .i64 2], .int .u64 13832806255468478464] wk fun e w' => e = .returned (.tuple #[.string ⟨#[45, 48, 48, 48, 49, 46, 53, 48]⟩, .int .i64 0]) ∧ Below wk.heap.size wk w') := by
    intro wk k
    refine (render_any 102 18 8 2 13832806255468478464 wk k (by omega) (by omega) (by omega) (by omega)).mono ?_
    rintro e w' ⟨rfl, b⟩
    rw [Po.ren15n.1, Po.ren15n.2]
    exact ⟨rfl, b⟩
  have A2 : Hid (∀ wk, Tab wk → Calls Tryz.prog 6 #[.agg #[.int .u8 102, .int .i64 18, .int .i64 8, .int .i64 2], .int .u64 4609434218613702656] wk fun e w' => e = .returned (.tuple #[.string ⟨#[43, 48, 48, 48, 49, 46, 53, 48]⟩, .int .i64 0]) ∧ Below wk.heap.size wk w') := by
    intro wk k
    refine (render_any 102 18 8 2 4609434218613702656 wk k (by omega) (by omega) (by omega) (by omega)).mono ?_
    rintro e w' ⟨rfl, b⟩
    rw [Po.ren15, Po.ren15n.2]
    exact ⟨rfl, b⟩
  have A3 : Hid (∀ wk, Calls Tryz.prog 7 #[.agg #[.int .u8 69, .int .i64 0, .int .i64 6, .int .i64 (-1)], .int .u64 18442240474082181120] wk fun e w' => e = .returned (.tuple #[.string ⟨#[32, 32, 45, 73, 78, 70]⟩, .bool true, .int .i64 0]) ∧ Below wk.heap.size wk w') := by
    intro wk
    refine (special_any 69 0 6 (-1) 18442240474082181120 wk (by omega) (by omega) (by omega) (by omega)).mono ?_
    rintro e w' ⟨rfl, b⟩
    rw [Po.spcinf.1, Po.spcinf.2.1, Po.spcinf.2.2]
    exact ⟨rfl, b⟩
  have T0 := hid hT
  clear hT
  go_enter Tryz.func4, Tryz.ntmps4
  go_wp2_with fail
  with_reducible refine (A1.out _ T0.out).mono ?_
  rintro e w1 ⟨rfl, b1⟩
  have B1 := hid b1
  have T1 := hid (TB.out _ B1.out)
  clear b1
  go_wp2_with fail
  with_reducible refine (A2.out _ T1.out).mono ?_
  rintro e w2 ⟨rfl, b2⟩
  have B2 := hid (below_on B1.out b2)
  clear b2
  go_wp2_with fail
  with_reducible refine (A3.out _).mono ?_
  rintro e w3 ⟨rfl, b3⟩
  have B3 := hid (below_on B2.out b3)
  clear b3
  go_wp2_with fail
  go_ret
  exact ⟨rfl, B3.out⟩

set_option maxRecDepth 100000 in
theorem plfin_any (d : Int) (w : World) (h0 : 0 ≤ d) (_h1 : d < 18446744073709551616) :
    Calls Tryz.prog 9 #[.int .u64 d] w fun e w' => e = .returned (.bool (Ie.fnt d)) ∧ w' = w := by
  have E := hid (fnt_abs d)
  go_enter Tryz.func9, Tryz.ntmps9
  go_wp2_with fail
  go_ret
  exact ⟨fretB E.out, rfl⟩

set_option maxRecDepth 100000 in
set_option maxHeartbeats 2000000 in
theorem pwrong_any (V F W P : Int) (w : World) :
    Calls Tryz.prog 5 #[.agg #[.int .u8 V, .int .i64 F, .int .i64 W, .int .i64 P]] w fun e w' => e = .returned (.int .i64 (Po.renE V F W P)) ∧ Below w.heap.size w w' := by
  have B := hid (alloc_b w (.cells #[.int .u8 V, .int .i64 F, .int .i64 W, .int .i64 P] 23))
  have RE : Hid (Po.renE V F W P = if Po.okV V = true then Wh.chk F W P else 140) := rfl
  by_cases hV : V = 101 ∨ V = 69 ∨ V = 102 ∨ V = 70 ∨ V = 103 ∨ V = 71
  · have e0 : Po.renE V F W P = Wh.chk F W P := by rw [RE.out, if_pos (show Po.okV V = true from decide_eq_true hV)]
    rw [e0]
    clear e0 RE
    have key : ∃ E, Wh.chk F W P = E ∧ ((E = 1 ∧ F < 0) ∨ (E = 1 ∧ ¬ F < 0 ∧ 31 < F) ∨ (E = 1 ∧ ¬ F < 0 ∧ ¬ 31 < F ∧ W < 0) ∨ (E = 1 ∧ ¬ F < 0 ∧ ¬ 31 < F ∧ ¬ W < 0 ∧ P < -1) ∨ (E = 6 ∧ ¬ F < 0 ∧ ¬ 31 < F ∧ ¬ W < 0 ∧ ¬ P < -1 ∧ 4096 < W) ∨ (E = 6 ∧ ¬ F < 0 ∧ ¬ 31 < F ∧ ¬ W < 0 ∧ ¬ P < -1 ∧ ¬ 4096 < W ∧ 4096 < P) ∨ (E = 0 ∧ ¬ F < 0 ∧ ¬ 31 < F ∧ ¬ W < 0 ∧ ¬ P < -1 ∧ ¬ 4096 < W ∧ ¬ 4096 < P)) := by
      refine ⟨_, rfl, ?_⟩
      unfold Wh.chk
      split
      · omega
      · split <;> omega
    obtain ⟨E, hE, k⟩ := key
    rw [hE]
    clear hE
    rcases hV with rfl | rfl | rfl | rfl | rfl | rfl <;>
    rcases k with ⟨rfl, a1⟩ | ⟨rfl, a1, a2⟩ | ⟨rfl, a1, a2, a3⟩ | ⟨rfl, a1, a2, a3, a4⟩ | ⟨rfl, a1, a2, a3, a4, a5⟩ | ⟨rfl, a1, a2, a3, a4, a5, a6⟩ | ⟨rfl, a1, a2, a3, a4, a5, a6⟩ <;>
    (go_enter Tryz.func5, Tryz.ntmps5
     go_wp2_with fail
     go_ret
     exact ⟨rfl, B.out⟩)
  · have e0 : Po.renE V F W P = 140 := by rw [RE.out, if_neg (by simpa [Po.okV] using hV)]
    rw [e0]
    clear e0 RE
    have n1 : (V == 101) = false := by simp; omega
    have n2 : (V == 69) = false := by simp; omega
    have n3 : (V == 102) = false := by simp; omega
    have n4 : (V == 70) = false := by simp; omega
    have n5 : (V == 103) = false := by simp; omega
    have n6 : (V == 71) = false := by simp; omega
    clear hV
    go_enter Tryz.func5, Tryz.ntmps5
    go_wp2_with fail
    go_ret
    exact ⟨rfl, B.out⟩
end Go.Proofs.YtaoaniigbooihabGreatDoor
