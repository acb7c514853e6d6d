/-
  CharsKeeps: append of one thing to a row of our own, told by where the row lies then.
-/
import Derived.Test.YtiggmgagcogakaaDoorChMem
import Derived.ArgAppend
namespace Go.Proofs.YtiggmgagcogakaaDoor
open Go Go.RowKit Go.Deep Go.Shelf

theorem own_push {base : Nat} {w : World} {e ts : TypeId} {i : TypeInfo} {z : Value} {bytes : Nat} (ht : Tryd.prog.underlying ts = some (.slice e)) (hi : Tryd.prog.info? e = some i) (hz : i.zero = some z) (hs : i.size = 1) (hy : i.bytes = bytes) (zc : z.cells.size = 1)
    {mv : Value} {n : Nat} {xs : List Value} (ho : w.ownsRow base e 1 mv n xs) (gs c : Nat) (x : Value) (hx : w.cell? ⟨gs, 0, none⟩ = some x) (h1 : x.oneCell' = true) (hm : n + 1 ≤ maxLen) (hb : (n + 1) * bytes ≤ 140737488355328) (hbase : base ≤ w.heap.size) :
    ∃ g' c' w', (Builtin.append_ #[ts, ts] ts #[mv, .slice (some ⟨gs, 0, none⟩) 1 c]).run Tryd.prog w = .ok (.slice (some ⟨g', 0, none⟩) (n + 1) c') w' ∧ w'.ownsRow base e 1 (.slice (some ⟨g', 0, none⟩) (n + 1) c') (n + 1) (xs ++ [x]) ∧ w.grownBy w' mv.ownBlock ∧
      (mv = .slice (some ⟨g', 0, none⟩) n c' ∨ (w.heap.size ≤ g' ∧ Below w.heap.size w w')) := by
  have src : ∀ j u, [x][j]? = some u → w.cell? ((⟨gs, 0, none⟩ : Addr).add j) = some u := fun j u hu => by
    cases j with
    | zero =>
      simp at hu
      subst hu
      rw [Go.WideShapes.add_plain]
      exact hx
    | succ j => simp at hu
  have one : ∀ u ∈ [x], u.oneCell' = true := fun u hu => by simp at hu; subst hu; exact h1
  have fresh : ∀ {v' : Value} {w' : World}, w'.ownsRow w.heap.size e 1 v' (n + 1) (xs ++ [x]) → w.grownBy w' none → ∃ g' c', v' = .slice (some ⟨g', 0, none⟩) (n + 1) c' ∧ w.heap.size ≤ g' ∧ w'.ownsRow base e 1 v' (n + 1) (xs ++ [x]) ∧ Below w.heap.size w w' := by
    intro v' w' o gb
    rcases o.2 with ⟨_, h0⟩ | ⟨g', c', cur, rfl, hg, rest⟩
    · omega
    · exact ⟨g', c', rfl, hg, ⟨o.1, .inr ⟨g', c', cur, rfl, Nat.le_trans hbase hg, rest⟩⟩, gb.os, gb.tape, gb.output, gb.size, fun k hk => gb.block k hk (by simp)⟩
  rcases ho.2 with ⟨rfl, rfl⟩ | ⟨g, cap, cur, rfl, hg, hgg, hnc, hcm, hcs, htk⟩
  · have x0 : xs = [] := List.eq_nil_of_length_eq_zero (by rw [ho.1])
    subst x0
    obtain ⟨v', w', hr, o, gb, _⟩ := run_append_own (P := Tryd.prog) w w.heap.size ts ts e i z 1 bytes ht hi hz hs hy zc (by omega) (.slice none 0 0) 0 [] (World.ownsRow_nil _ _ _ _) ⟨gs, 0, none⟩ 1 c [x] rfl src one hm hb (Nat.le_refl _)
    obtain ⟨g', c', rfl, hg, o', bl⟩ := fresh o gb
    exact ⟨g', c', w', hr, o', gb, .inr ⟨hg, bl⟩⟩
  · by_cases room : n + 1 ≤ cap
    · obtain ⟨v', w', hr, o, gb, _⟩ := run_append_own (P := Tryd.prog) w base ts ts e i z 1 bytes ht hi hz hs hy zc (by omega) _ n xs ho ⟨gs, 0, none⟩ 1 c [x] rfl src one hm hb hbase
      have q := run_append_room_cells (P := Tryd.prog) w ts ts e i ht hi g 0 n cap ⟨gs, 0, none⟩ 1 c [x] (by rw [hs]; rfl) src one room
        (fun j hj => by
          simp only [List.length_cons, List.length_nil] at hj
          rw [cell_of_row _ _ _ _ _ _ hgg, hs, Array.getElem?_eq_getElem (by omega)]
          rfl) (fun j _ => World.ownsRow.frozenAt ho _)
      rw [q] at hr
      injection hr with e1 e2
      subst e1
      subst e2
      exact ⟨g, cap, _, q, o, gb, .inl rfl⟩
    · obtain ⟨v', w', hr, o, gb⟩ := run_append_arg_grows (P := Tryd.prog) w ts ts e i z 1 bytes ht hi hz hs hy zc (by omega) ⟨g, 0, none⟩ n cap xs ho.1 (fun j u hu => World.ownsRow.cells ho (g := g) rfl j u hu) ⟨gs, 0, none⟩ 1 c [x] rfl src (by omega) hm hb
      obtain ⟨g', c', rfl, hg', o', bl⟩ := fresh o gb
      exact ⟨g', c', w', hr, o', ⟨gb.os, gb.tape, gb.output, gb.size, fun k hk _ => gb.block k hk (by simp)⟩, .inr ⟨hg', bl⟩⟩
end Go.Proofs.YtiggmgagcogakaaDoor
