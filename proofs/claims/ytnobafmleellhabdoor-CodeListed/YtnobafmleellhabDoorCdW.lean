/-
  code: words (mkcda.py).
-/
import Derived.Test.YtnobafmleellhabDoorCdN
import Derived.Deep.MidRow
namespace Go.Proofs.YtnobafmleellhabDoor
open Go Go.RowKit Go.Deep

theorem wpList_store_to {ops : Array Oper} {rest : List Oper} {op : Oper} {a : Act} {w W2 : World} {Q : Exit → Act → World → Prop} (hgd : op.guard = none) (ty : TypeId) (x y : Operand) (ho : op.op = .store ty x y)
    (b o : Nat) (cells : Array Value) (hx : a.eval x = .pointer (some ⟨b, o, none⟩)) (hy : a.eval y = .agg cells)
    (ht : w.there b o cells.size) (hi : (Tryd.prog.info? ty).map (·.size) = some cells.size) (h1 : cells.all (·.oneCell') = true) (hW : w.setCells b o cells.toList = W2)
    (h : wpList Tryd.prog ops Q rest (a.put op.dst undef) W2) : wpList Tryd.prog ops Q (op :: rest) a w :=
  wpList_store_mid hgd ty x y ho b o cells hx hy ht hi h1 (by rw [hW]; exact h)
theorem wpList_build_to {ops : Array Oper} {rest : List Oper} {op : Oper} {a : Act} {w : World} {Q : Exit → Act → World → Prop} (hgd : op.guard = none) (ty : TypeId) (parts : Array (Nat × Operand)) (ho : op.op = .build ty parts)
    (v : Value) (hr : (Instr.build ty (parts.map fun (i, x) => (i, a.eval x))).run Tryd.prog w = .ok v w)
    (h : wpList Tryd.prog ops Q rest (a.put op.dst v) w) : wpList Tryd.prog ops Q (op :: rest) a w := by
  refine wpList_plain hgd fun K hK => ?_
  unfold Oper.wp execOp
  simp only [ho, Sem.run_bind, Sem.run_pure, Result.andThen_ok, hr]
  exact hK _ _ h
theorem setCells_below (b : Nat) : ∀ (vs : List Value) (o : Nat) (w : World) (B : Nat) (a : World), Below B a w → B ≤ b → Below B a (w.setCells b o vs)
  | [], _, _, _, _, h, _ => h
  | v :: r, o, _, B, a, h, hb => setCells_below b r (o + 1) _ B a (h.setCell (p := ⟨b, o, none⟩) hb v) hb
theorem cd_build (w : World) : (Instr.build 55 #[(1, .agg #[.string ⟨#[110, 117, 109]⟩, .int .i64 1, .int .i64 0, .int .i64 0, .int .i64 1]), (2, .agg #[.string ⟨#[115, 116, 114]⟩, .int .i64 2, .int .i64 0, .int .i64 0, .int .i64 1]), (3, .agg #[.string ⟨#[118, 97, 114]⟩, .int .i64 4, .int .i64 0, .int .i64 0, .int .i64 1]), (4, .agg #[.string ⟨#[115, 101, 116, 118, 97, 114]⟩, .int .i64 4, .int .i64 0, .int .i64 1, .int .i64 1]), (5, .agg #[.string ⟨#[111, 112, 118, 97, 114]⟩, .int .i64 4, .int .i64 6, .int .i64 1, .int .i64 1]), (6, .agg #[.string ⟨#[115, 116, 101, 112, 118, 97, 114]⟩, .int .i64 4, .int .i64 7, .int .i64 0, .int .i64 1]), (7, .agg #[.string ⟨#[115, 117, 98, 118, 97, 114]⟩, .int .i64 4, .int .i64 9, .int .i64 2, .int .i64 1]), (8, .agg #[.string ⟨#[102, 105, 101, 108, 100]⟩, .int .i64 0, .int .i64 0, .int .i64 1, .int .i64 1]), (9, .agg #[.string ⟨#[115, 101, 116, 102, 105, 101, 108, 100]⟩, .int .i64 0, .int .i64 0, .int .i64 2, .int .i64 1]), (10, .agg #[.string ⟨#[111, 112, 102, 105, 101, 108, 100]⟩, .int .i64 0, .int .i64 6, .int .i64 2, .int .i64 1]), (11, .agg #[.string ⟨#[115, 116, 101, 112, 102, 105, 101, 108, 100]⟩, .int .i64 0, .int .i64 7, .int .i64 1, .int .i64 1]), (12, .agg #[.string ⟨#[115, 117, 98, 102, 105, 101, 108, 100]⟩, .int .i64 0, .int .i64 9, .int .i64 3, .int .i64 1]), (13, .agg #[.string ⟨#[107, 101, 121]⟩, .int .i64 11, .int .i64 0, .int .i64 0, .int .i64 1]), (14, .agg #[.string ⟨#[101, 108, 101, 109]⟩, .int .i64 5, .int .i64 0, .int .i64 1, .int .i64 1]), (15, .agg #[.string ⟨#[115, 101, 116, 101, 108, 101, 109]⟩, .int .i64 5, .int .i64 0, .int .i64 2, .int .i64 1]), (16, .agg #[.string ⟨#[111, 112, 101, 108, 101, 109]⟩, .int .i64 5, .int .i64 6, .int .i64 2, .int .i64 1]), (17, .agg #[.string ⟨#[115, 116, 101, 112, 101, 108, 101, 109]⟩, .int .i64 5, .int .i64 7, .int .i64 1, .int .i64 1]), (18, .agg #[.string ⟨#[115, 117, 98, 101, 108, 101, 109]⟩, .int .i64 5, .int .i64 9, .int .i64 3, .int .i64 1]), (19, .agg #[.string ⟨#[105, 110]⟩, .int .i64 5, .int .i64 0, .int .i64 1, .int .i64 1]), (20, .agg #[.string ⟨#[110, 101, 103]⟩, .int .i64 0, .int .i64 0, .int .i64 1, .int .i64 1]), (21, .agg #[.string ⟨#[112, 111, 115]⟩, .int .i64 0, .int .i64 0, .int .i64 1, .int .i64 1]), (22, .agg #[.string ⟨#[110, 111, 116]⟩, .int .i64 0, .int .i64 0, .int .i64 1, .int .i64 1]), (23, .agg #[.string ⟨#[116, 114, 117, 116, 104]⟩, .int .i64 0, .int .i64 0, .int .i64 1, .int .i64 1]), (24, .agg #[.string ⟨#[98, 105, 110]⟩, .int .i64 6, .int .i64 0, .int .i64 2, .int .i64 1]), (25, .agg #[.string ⟨#[99, 97, 116]⟩, .int .i64 0, .int .i64 0, .int .i64 2, .int .i64 1]), (26, .agg #[.string ⟨#[114, 101, 108]⟩, .int .i64 8, .int .i64 0, .int .i64 2, .int .i64 1]), (27, .agg #[.string ⟨#[106, 117, 109, 112]⟩, .int .i64 3, .int .i64 0, .int .i64 0, .int .i64 0]), (28, .agg #[.string ⟨#[105, 102, 110, 111, 116]⟩, .int .i64 3, .int .i64 0, .int .i64 1, .int .i64 0]), (29, .agg #[.string ⟨#[105, 102]⟩, .int .i64 3, .int .i64 0, .int .i64 1, .int .i64 0]), (30, .agg #[.string ⟨#[112, 111, 112]⟩, .int .i64 0, .int .i64 0, .int .i64 1, .int .i64 0]), (31, .agg #[.string ⟨#[99, 97, 108, 108]⟩, .int .i64 10, .int .i64 11, .int .i64 0, .int .i64 1]), (32, .agg #[.string ⟨#[115, 112, 108, 105, 116]⟩, .int .i64 5, .int .i64 0, .int .i64 2, .int .i64 1]), (33, .agg #[.string ⟨#[97, 115, 111, 114, 116]⟩, .int .i64 5, .int .i64 0, .int .i64 0, .int .i64 1])]).run Tryd.prog w = .ok (.agg Cd.TT.toArray) w := by kernel_rfl
theorem cd_zlen : (Tryd.zeroCells55).size = 170 := by kernel_rfl
theorem cd_there (w : World) : (w.alloc (.cells Tryd.zeroCells55 55)).there w.heap.size 0 Cd.TT.toArray.size := fun j hj => by
  rw [Cd.TT_size] at hj
  have hb : (w.alloc (.cells Tryd.zeroCells55 55)).heap[w.heap.size]? = some (.cells Tryd.zeroCells55 55 (0, 0)) := heap_alloc_new w _
  constructor
  · rw [cell_of_row _ _ _ _ _ _ hb, Nat.zero_add, Array.getElem?_eq_getElem (by rw [cd_zlen]; exact hj)]
    rfl
  · unfold World.frozen?
    rw [hb]
    simp
theorem cd_lay (w : World) : ∃ W2, (w.alloc (.cells Tryd.zeroCells55 55)).setCells w.heap.size 0 Cd.TT.toArray.toList = W2 ∧ Cd.TB W2 w.heap.size ∧ Below w.heap.size w W2 := by
  refine ⟨_, rfl, ?_, setCells_below _ _ _ _ _ _ (alloc_b w _) (Nat.le_refl _)⟩
  have := Re.bx_setc (g := w.heap.size) (t := 55) Cd.TT 0 (w.alloc (.cells Tryd.zeroCells55 55)) Tryd.zeroCells55.toList (by rw [Array.toArray_toList]; exact heap_alloc_new w _) (by rw [Cd.TT_len, Array.length_toList, cd_zlen]; omega)
  rw [List.take_zero, List.nil_append, List.drop_of_length_le (by rw [Cd.TT_len, Array.length_toList, cd_zlen]; omega), List.append_nil] at this
  exact this
theorem cd_one : Cd.TT.toArray.all (·.oneCell') = true := all_oneCell_toArray Cd.TT_one
theorem cd_info : (Tryd.prog.info? 55).map (·.size) = some Cd.TT.toArray.size := by kernel_rfl
set_option maxRecDepth 100000 in
set_option maxHeartbeats 4000000 in
theorem cwords_any (w : World) : Calls Tryd.prog 15 #[] w fun e w' => e = .returned (.agg Cd.TT.toArray) ∧ Below w.heap.size w w' := by
  obtain ⟨W2, hW, hT, hB⟩ := cd_lay w
  have TH := hid (cd_there w)
  have HW := hid hW
  have F := hid (And.intro hT hB)
  clear hW hT hB
  go_enter Tryd.func15, Tryd.ntmps15
  go_wp2_with (first
    | (refine wpList_build_to rfl 55 _ rfl _ (cd_build _) ?_)
    | (refine wpList_store_to rfl 55 _ _ rfl w.heap.size 0 _ rfl rfl TH.out cd_info cd_one HW.out ?_; clear TH HW))
  refine bodyPost_ret (results_cell_row rfl _ _ w.heap.size 55 _ (0, 0) _ rfl F.out.1 Tryd.underlying55 rfl (by kernel_rfl)) rfl ?_
  exact ⟨rfl, F.out.2⟩
end Go.Proofs.YtnobafmleellhabDoor
