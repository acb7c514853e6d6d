/-
  render: what a piece in form writes (rendered).
-/
import Derived.Test.YtiflponlioldmaaGreatDoorRJ
import Derived.Test.YtiflponlioldmaaGreatDoorDSettle
namespace Go.Proofs.YtiflponlioldmaaGreatDoor
open Go Go.RowKit Go.Deep Go.Shelf

/-- A piece's box behind the writer's state. -/
structure RB7 (w1 : World) (v : Value) (A : List Rn.Ag) (zs : List Int) (bx : Nat) (p : Dr.Pc) (w : World) : Prop where
  ws : RWS w1 v A zs w
  lo : w1.heap.size < bx
  box : w.heap[bx]? = some (.cells #[.string (strOfNums p.t), .int .u8 p.v, .int .i64 p.fl, .int .i64 p.wk, .int .i64 p.wd, .int .i64 p.pk, .int .i64 p.pr] 39 (0, 0))
theorem RB7.new {w1 w : World} {v : Value} {A : List Rn.Ag} {zs : List Int} (h : RWS w1 v A zs w) (p : Dr.Pc) : RB7 w1 v A zs w.heap.size p (w.alloc (.cells #[.string (strOfNums p.t), .int .u8 p.v, .int .i64 p.fl, .int .i64 p.wk, .int .i64 p.wd, .int .i64 p.pk, .int .i64 p.pr] 39)) :=
  ⟨h.on (alloc_b w _), h.isw.lt, heap_alloc_new w _⟩
theorem RB7.flat {w1 w : World} {v : Value} {A : List Rn.Ag} {zs : List Int} {bx : Nat} {p : Dr.Pc} (h : RB7 w1 v A zs bx p w) :
    w.cell? ⟨bx, 0, none⟩ = some (.string (strOfNums p.t)) ∧ w.cell? ⟨bx, 1, none⟩ = some (.int .u8 p.v) ∧ w.cell? ⟨bx, 2, none⟩ = some (.int .i64 p.fl) ∧ w.cell? ⟨bx, 3, none⟩ = some (.int .i64 p.wk) ∧ w.cell? ⟨bx, 4, none⟩ = some (.int .i64 p.wd) ∧ w.cell? ⟨bx, 5, none⟩ = some (.int .i64 p.pk) ∧ w.cell? ⟨bx, 6, none⟩ = some (.int .i64 p.pr) := by
  refine ⟨?_, ?_, ?_, ?_, ?_, ?_, ?_⟩ <;> rw [Lib.cell_of_heap h.box] <;> rfl
theorem RB7.two {w1 w : World} {v : Value} {A : List Rn.Ag} {zs : List Int} {bx : Nat} {p : Dr.Pc} (h : RB7 w1 v A zs bx p w) : w.cell? ⟨bx, 3, none⟩ = some (.int .i64 p.wk) ∧ w.cell? ⟨bx, 5, none⟩ = some (.int .i64 p.pk) := ⟨h.flat.2.2.2.1, h.flat.2.2.2.2.2.1⟩
theorem RB7.put {w1 w w' : World} {v v' : Value} {A A' : List Rn.Ag} {zs : List Int} {bx : Nat} {p : Dr.Pc} (h : RB7 w1 v A zs bx p w) (k : RWS w1 v' A' zs w') (q : Keeps w1.heap.size w w') : RB7 w1 v' A' zs bx p w' :=
  ⟨k, h.lo, by rw [q.2 bx (blk_lt h.box) (by have := h.lo; omega)]; exact h.box⟩
theorem RB7.on {w1 w w' : World} {v : Value} {A : List Rn.Ag} {zs : List Int} {bx : Nat} {p : Dr.Pc} (h : RB7 w1 v A zs bx p w) (k : Below w.heap.size w w') : RB7 w1 v A zs bx p w' :=
  ⟨h.ws.on k, h.lo, by rw [k.block bx (blk_lt h.box)]; exact h.box⟩

theorem RB7.drew {w1 w : World} {v : Value} {A : List Rn.Ag} {zs : List Int} {bx : Nat} {p : Dr.Pc} (h : RB7 w1 v A zs bx p w) : RB7 w1 v A zs bx p w.drew := h.on (Below.drew (Below.refl _ _))
set_option maxRecDepth 100000 in
theorem rendered_text (w1 w : World) (v : Value) (A : List Rn.Ag) (zs : List Int) (p : Dr.Pc) (h : RWS w1 v A zs w) (hp : p.v = 0) :
    Calls Tryz.prog 41 #[.pointer (some ⟨w1.heap.size, 0, none⟩), .agg #[.string (strOfNums p.t), .int .u8 p.v, .int .i64 p.fl, .int .i64 p.wk, .int .i64 p.wd, .int .i64 p.pk, .int .i64 p.pr]] w fun r w' => r = .returned (.string (strOfNums p.t)) ∧ RWS w1 v A zs w' := by
  have R := hid (RB7.new h p).ws
  rw [hp] at R ⊢
  clear h
  go_enter Tryz.func41, Tryz.ntmps41
  go_wp2_with fail
  go_ret
  exact ⟨rfl, R.out⟩
set_option maxRecDepth 100000 in
theorem rendered_pct (w1 w : World) (v : Value) (A : List Rn.Ag) (zs : List Int) (p : Dr.Pc) (h : RWS w1 v A zs w) (hp : p.v = 37) :
    Calls Tryz.prog 41 #[.pointer (some ⟨w1.heap.size, 0, none⟩), .agg #[.string (strOfNums p.t), .int .u8 p.v, .int .i64 p.fl, .int .i64 p.wk, .int .i64 p.wd, .int .i64 p.pk, .int .i64 p.pr]] w fun r w' => r = .returned (.string (strOfNums [37])) ∧ RWS w1 v A zs w' := by
  have R := hid (RB7.new h p).ws
  rw [hp] at R ⊢
  clear h
  go_enter Tryz.func41, Tryz.ntmps41
  go_wp2_with fail
  go_ret
  exact ⟨rfl, R.out⟩

theorem S4.keep {b sb : Nat} {w w' : World} {v0 v1 v2 v3 : Value} (h : S4 w sb v0 v1 v2 v3) (k : Keeps b w w') (ne : sb ≠ b) : S4 w' sb v0 v1 v2 v3 := by
  rw [S4, k.2 sb h.lt ne]; exact h
theorem pan_ret {P : Program} {fn : Func} {R : Ending → World → Prop} {ch : List PanicEntry} {a : Act} {w : World} (hd : a.defers = []) (h : R (.panicked ch) w) : bodyPost P fn R (.panic ch) a w := ⟨hd, h⟩
/-- What a directive does. -/
def DirTold (w1 : World) (A : List Rn.Ag) (zs : List Int) (p : Dr.Pc) (r : Ending) (w' : World) : Prop :=
  (Rn.dirE p A ≠ 0 ∧ r = .panicked (flt (Rn.dirE p A)) ∧ Below w1.heap.size w1 w') ∨
  (Rn.dirE p A = 0 ∧ r = .returned (.string (strOfNums (Rn.dirT p A))) ∧ ∃ v', RWS w1 v' (A.drop (Dr.tk p).toNat) zs w')

theorem wants_one (p : Dr.Pc) : Dr.wants [p] = Dr.tk p := by rw [Dr.wants, Dr.wants]; omega

namespace Rn
theorem cut_zero : cutI 0 = 0 := by
  have e : wpt 0 = 0 := by
    show Ie.whp (0 % 9223372036854775808) = 0
    rw [Int.zero_emod]; exact Ie.whp_zero
  rw [cutI, e]; decide
theorem cut_bd (d : Int) : -4097 ≤ cutI d ∧ cutI d ≤ 4097 := by unfold cutI; omega
theorem fnt_zero : Ie.fnt 0 = true := by decide
/-- The numbers of the stars, as star tells them. -/
theorem dir_vals (p : Dr.Pc) (A : List Ag) : cW p A = cutI (stV p.wk A) ∧ cP p A = cutI (stV p.pk (stA p.wk A)) ∧
    ((p.wk = 2 ∧ Ie.fnt (aW A).n = false) ↔ Ie.fnt (stV p.wk A) = false) ∧ ((p.pk = 2 ∧ Ie.fnt (aP p A).n = false) ↔ Ie.fnt (stV p.pk (stA p.wk A)) = false) ∧
    (p.pk = 2 → (stA p.wk A).getD 0 Ag.no = aP p A) := by
  have e2 : (stA p.wk A).getD 0 Ag.no = aP p A := by
    unfold stA aP
    by_cases h : p.wk = 2
    · rw [if_pos h, if_pos h, List.getD_eq_getElem?_getD, List.getD_eq_getElem?_getD, List.getElem?_drop]
    · rw [if_neg h, if_neg h]
  refine ⟨?_, ?_, ?_, ?_, fun _ => e2⟩
  · unfold cW stV
    by_cases h : p.wk = 2
    · rw [if_pos h, if_pos h]; rfl
    · rw [if_neg h, if_neg h, cut_zero]
  · unfold cP
    rw [stV, e2]
    by_cases h : p.pk = 2
    · rw [if_pos h, if_pos h]
    · rw [if_neg h, if_neg h, cut_zero]
  · unfold stV
    by_cases h : p.wk = 2
    · rw [if_pos h]; exact ⟨fun q => q.2, fun q => ⟨h, q⟩⟩
    · rw [if_neg h]; exact ⟨fun q => absurd q.1 h, fun q => by rw [fnt_zero] at q; exact absurd q (by decide)⟩
  · rw [stV, e2]
    by_cases h : p.pk = 2
    · rw [if_pos h]; exact ⟨fun q => q.2, fun q => ⟨h, q⟩⟩
    · rw [if_neg h]; exact ⟨fun q => absurd q.1 h, fun q => by rw [fnt_zero] at q; exact absurd q (by decide)⟩
theorem dir_list {p : Dr.Pc} {A : List Ag} (h : Dr.tk p ≤ A.length) (t : Dr.tk p = 1 + (if p.wk = 2 then 1 else 0) + (if p.pk = 2 then 1 else 0)) : stA p.pk (stA p.wk A) = aA p A :: A.drop (Dr.tk p).toNat := by
  have key : ∀ k : Nat, k < A.length → A.drop k = A.getD k Ag.no :: A.drop (k + 1) := fun k hk => by
    rw [List.drop_eq_getElem_cons hk, List.getD_eq_getElem?_getD, List.getElem?_eq_getElem hk]; rfl
  unfold stA aA
  by_cases h1 : p.wk = 2
  · rw [if_pos h1] at t ⊢
    by_cases h2 : p.pk = 2
    · rw [if_pos h2] at t ⊢
      rw [if_pos h1, if_pos h2, List.drop_drop, show (Dr.tk p).toNat = 3 by omega]
      exact key 2 (by omega)
    · rw [if_neg h2] at t ⊢
      rw [if_pos h1, if_neg h2, show (Dr.tk p).toNat = 2 by omega]
      exact key 1 (by omega)
  · rw [if_neg h1] at t ⊢
    by_cases h2 : p.pk = 2
    · rw [if_pos h2] at t ⊢
      rw [if_neg h1, if_pos h2, show (Dr.tk p).toNat = 2 by omega]
      exact key 1 (by omega)
    · rw [if_neg h2] at t ⊢
      rw [if_neg h1, if_neg h2, show (Dr.tk p).toNat = 1 by omega]
      exact key 0 (by omega)
end Rn
theorem spv_ok {p : Dr.Pc} {x y : Int} (h : ste p x y = 0) : spv p x y = #[.int .u8 p.v, .int .i64 (Rn.sF p x), .int .i64 (Rn.sV p x), .int .i64 (sP p y)] := by rw [spv, if_pos h]; rfl
theorem spv_no {p : Dr.Pc} {x y : Int} (h : ste p x y ≠ 0) : spv p x y = #[.int .u8 0, .int .i64 0, .int .i64 0, .int .i64 0] := by rw [spv, if_neg h]
theorem mem_get {A : List Rn.Ag} {i : Nat} (h : i < A.length) : A.getD i Rn.Ag.no ∈ A := by
  rw [List.getD_eq_getElem?_getD, List.getElem?_eq_getElem h]; exact List.getElem_mem h

end Go.Proofs.YtiflponlioldmaaGreatDoor
