/-
  relate's queue: push of the heap.
-/
import Derived.Test.YtpmmbaahoegmlaaGreatDoorReG
namespace Go.Proofs.YtpmmbaahoegmlaaGreatDoor
open Go Go.RowKit Go.Deep Go.Shelf

theorem Re.RowE.same {base : Nat} {w w' : World} {mv : Value} {A : List Re.En} (h : Re.RowE base w mv A) (e : ∀ g, mv.ownBlock = some g → w'.heap[g]? = w.heap[g]?) : Re.RowE base w' mv A := by
  refine ⟨h.1, ?_⟩
  rcases h.2 with c | ⟨g, cap, cur, rfl, h1, h2, h3⟩
  · exact .inl c
  · exact .inr ⟨g, cap, cur, rfl, h1, by rw [e g rfl]; exact h2, h3⟩
/-- A row's block is no block of another type. -/
theorem Re.RowE.apart {base : Nat} {w : World} {mv : Value} {A : List Re.En} {b t : Nat} {c : Array Value} (h : Re.RowE base w mv A) (hb : Bx w b t c) (ht : t ≠ 87) : mv.ownBlock ≠ some b := by
  intro e
  rcases h.2 with ⟨rfl, _⟩ | ⟨g, cap, cur, rfl, h1, h2, h3⟩
  · cases e
  · have eg : g = b := Option.some.inj e
    subst eg
    rw [hb] at h2
    simp only [Option.some.injEq, Obj.cells.injEq] at h2
    exact ht h2.2.1

theorem wp_append_r {ty tz : TypeId} {o : Oper} {a : Act} {K : Act → World → Prop} {Q : Exit → Act → World → Prop} (s x : Operand)
    (ho : o.op = .call { callee := .builtin .append, args := #[s, x], argTypes := #[ty, tz] }) {v y v' : Value} {w w' : World} (hr : (Builtin.append_ #[ty, tz] o.type #[v, y]).run Tryz.prog w = .ok v' w') (hs : a.eval s = v) (hx : a.eval x = y)
    (h : K (a.put o.dst v') w') : o.wp Tryz.prog a w K Q := by
  unfold Oper.wp execOp
  simp only [ho, resolve, invoke, builtin, Sem.run_bind, Sem.run_pure, Result.andThen_ok, List.map_toArray, List.map_cons, List.map_nil, hs, hx, hr]
  exact h

set_option maxRecDepth 100000 in
set_option maxHeartbeats 4000000 in
theorem hpush_any (base h : Nat) (mv : Value) (E : List Re.En) (x : Re.En) (w : World) (hh : Bx w h 92 #[mv, .func (.func 40) #[] #[]]) (hr : Re.RowE base w mv E) (hl : E.length < 1000000000000) (hb : base ≤ w.heap.size) :
    Calls Tryz.prog 43 #[.pointer (some ⟨h, 0, none⟩), .agg (Re.ee x).toArray] w fun e w' => e = .returned (.tuple #[]) ∧ ∃ mv', Bx w' h 92 #[mv', .func (.func 40) #[] #[]] ∧ Re.RowE base w' mv' (Re.upF (E ++ [x]) E.length) ∧ Re.Kp (fun b => b = h ∨ mv.ownBlock = some b) w w' := by
  obtain ⟨p0, c0, rfl⟩ := hr.shape
  obtain ⟨t, p, u, ex, -⟩ := Re.ee_ex x
  rw [ex]
  have b0 := alloc_b w (.cells #[.bool t, .int .i64 p, .string u, .int .i64 x.x.i, .int .i64 x.k, .int .u64 x.n, .string x.s] 87)
  have bx : Bx (w.alloc (.cells #[.bool t, .int .i64 p, .string u, .int .i64 x.x.i, .int .i64 x.k, .int .u64 x.n, .string x.s] 87)) w.heap.size 87 #[.bool t, .int .i64 p, .string u, .int .i64 x.x.i, .int .i64 x.k, .int .u64 x.n, .string x.s] := Bx.new w _ _
  have fin1 : ∀ wz : World, Below w.heap.size w wz → Re.Kp (fun b => b = h ∨ (Value.slice p0 E.length c0).ownBlock = some b) w wz := fun wz q => Re.Kp.of q
  change Calls Tryz.prog 43 #[.pointer (some ⟨h, 0, none⟩), .agg #[.bool t, .int .i64 p, .string u, .int .i64 x.x.i, .int .i64 x.k, .int .u64 x.n, .string x.s]] w _
  go_enter Tryz.func43, Tryz.ntmps43
  go_upto_region 1 with fail
  generalize w.alloc (.cells #[.bool t, .int .i64 p, .string u, .int .i64 x.x.i, .int .i64 x.k, .int .u64 x.n, .string x.s] 87) = wa at *
  have b1 : Below w.heap.size w wa.drew := Below.drew b0
  have r1 := hr.below b1
  have k1 := hh.on b1
  have x1 : Bx wa.drew w.heap.size 87 #[.bool t, .int .i64 p, .string u, .int .i64 x.x.i, .int .i64 x.k, .int .u64 x.n, .string x.s] := bx
  obtain ⟨mv', w', run, r2, kp, wh⟩ := r1.push2 x #[.bool t, .int .i64 p, .string u, .int .i64 x.x.i, .int .i64 x.k, .int .u64 x.n, .string x.s] (by rw [ex]) (by omega) (Nat.le_trans hb b1.size)
  have k2 : Bx w' h 92 #[.slice p0 E.length c0, .func (.func 40) #[] #[]] := k1.kp kp (r1.apart k1 (by decide))
  obtain ⟨g', cap', em, -, -, -, -⟩ := r2.open (by simp)
  obtain ⟨L, hL⟩ : ∃ L, (E ++ [x]).length = L := ⟨_, rfl⟩
  have hLn : L = E.length + 1 := by rw [← hL]; simp
  rw [hL] at em
  subst em
  have gh : h ≠ g' := fun e => r2.apart k2 (by decide) (by rw [e]; rfl)
  have k3 : Bx (w'.setCell ⟨h, 0, none⟩ (.slice (some ⟨g', 0, none⟩) L cap')) h 92 #[.slice (some ⟨g', 0, none⟩) L cap', .func (.func 40) #[] #[]] := k2.set 0 _
  have r3 : Re.RowE base (w'.setCell ⟨h, 0, none⟩ (.slice (some ⟨g', 0, none⟩) L cap')) (.slice (some ⟨g', 0, none⟩) L cap') (E ++ [x]) := r2.same (fun g e => Below.heap_setCell _ _ _ _ (fun q => gh (by cases e; exact q.symm)))
  have UP : Hid (Calls Tryz.prog 65 #[.pointer (some ⟨h, 0, none⟩), .int .i64 (E.length : Int)] (w'.setCell ⟨h, 0, none⟩ (.slice (some ⟨g', 0, none⟩) L cap')) fun e w6 => e = .returned (.tuple #[]) ∧ Re.RowE base w6 (.slice (some ⟨g', 0, none⟩) L cap') (Re.upF (E ++ [x]) E.length) ∧ Re.Kp (fun b => b = g') (w'.setCell ⟨h, 0, none⟩ (.slice (some ⟨g', 0, none⟩) L cap')) w6) := by
    have := up_any base h g' cap' (E ++ [x]) E.length (w'.setCell ⟨h, 0, none⟩ (.slice (some ⟨g', 0, none⟩) L cap')) (by rw [hL]; exact k3) (by rw [hL]; exact r3) (by rw [hL]; omega) (by rw [hL]; omega) gh
    rw [hL] at this
    exact this
  have own : ∀ b, (Value.slice p0 E.length c0).ownBlock = some b → b < w.heap.size := fun b e => (World.ownsRow.lt hr b e).2
  have FIN : Hid (∀ w6 : World, Re.RowE base w6 (.slice (some ⟨g', 0, none⟩) L cap') (Re.upF (E ++ [x]) E.length) → Re.Kp (fun b => b = g') (w'.setCell ⟨h, 0, none⟩ (.slice (some ⟨g', 0, none⟩) L cap')) w6 → ∃ mv', Bx w6 h 92 #[mv', .func (.func 40) #[] #[]] ∧ Re.RowE base w6 mv' (Re.upF (E ++ [x]) E.length) ∧ Re.Kp (fun b => b = h ∨ (Value.slice p0 E.length c0).ownBlock = some b) w w6) := fun w6 r6 k6 => by
    refine ⟨_, k3.kp k6 gh, r6, ?_⟩
    have ka : Re.Kp (fun b => b = h ∨ (Value.slice p0 E.length c0).ownBlock = some b) w w' := (fin1 _ b1).trans (kp.mono (fun b e => .inr e))
    have kb := ka.set (b := h) (.inl rfl) 0 (.slice (some ⟨g', 0, none⟩) L cap')
    refine ⟨k6.os.trans kb.os, k6.tape.trans kb.tape, k6.output.trans kb.output, Nat.le_trans kb.size k6.size, fun b hb hs => ?_⟩
    by_cases c : b = g'
    · exfalso
      rcases wh g' rfl with q | q
      · exact hs (.inr (by rw [c]; exact q))
      · have := b1.size; omega
    · rw [k6.block b (Nat.lt_of_lt_of_le hb kb.size) c]; exact kb.block b hb hs
  have RUN : Hid ((Builtin.append_ #[90, 90] 90 #[.slice p0 E.length c0, .slice (some ⟨wa.heap.size, 0, none⟩) 1 1]).run Tryz.prog (wa.alloc (.cells #[.bool t, .int .i64 p, .string u, .int .i64 x.x.i, .int .i64 x.k, .int .u64 x.n, .string x.s] 87)).drew = .ok (.slice (some ⟨g', 0, none⟩) L cap') w') := run
  clear run
  have h0 : wa.drew.cell? ⟨h, 0, none⟩ = some (.slice p0 E.length c0) := k1.cell 0 _ rfl
  have h0' : (wa.alloc (.cells #[.bool t, .int .i64 p, .string u, .int .i64 x.x.i, .int .i64 x.k, .int .u64 x.n, .string x.s] 87)).cell? ⟨h, 0, none⟩ = some (.slice p0 E.length c0) := (k1.on (alloc_b _ _)).cell 0 _ rfl
  have x0 := x1.cell 0 _ rfl
  have x01 := x1.cell 1 _ rfl
  have x02 := x1.cell 2 _ rfl
  have x03 := x1.cell 3 _ rfl
  have x04 := x1.cell 4 _ rfl
  have x05 := x1.cell 5 _ rfl
  have x06 := x1.cell 6 _ rfl
  have s0 : w'.cell? ⟨h, 0, none⟩ = some (.slice p0 E.length c0) := k2.cell 0 _ rfl
  have s1 : w'.frozen? ⟨h, 0, none⟩ = false := k2.free 0
  have q0 : (w'.setCell ⟨h, 0, none⟩ (.slice (some ⟨g', 0, none⟩) L cap')).cell? ⟨h, 0, none⟩ = some (.slice (some ⟨g', 0, none⟩) L cap') := k3.cell 0 _ rfl
  have wL : IntKind.i64.wrap ((L : Int) - 1) = (E.length : Int) := by rw [IntKind.wrap_i64]; omega
  have Lb : (L : Int) ≤ 1000000000001 := by omega
  clear hr hh hb hl b0 bx fin1 b1 r1 k1 x1 kp wh k2 gh k3 r3 own r2 hL hLn ex
  refine wp_region_any (by kernel_rfl) ?_
  change wpAny _ _ _ _ _ _ _ (World.drew _)
  refine wpAny_take (i := 0) (oi := { dst := some 4, op := Go.Op.move (Go.Operand.tmp 0), type := 89, pos := "heap.go:11", after := #[], guard := none }) (v := ?_) rfl (by kernel_rfl) (by kernel_rfl) (by kernel_rfl) (fun _ _ _ h => h) (Or.inl ⟨by rfl, ?_⟩) ?_
  rotate_left
  · (intro w; go_simp; try with_reducible rfl)
  (try simp only [Act.put]); (try simp only [List.setIfInBounds_toArray]); (try simp only [List.set_cons_succ]); (try simp only [List.set_cons_zero])
  refine wpAny_take (i := 1) (oi := { dst := some 5, op := Go.Op.move (Go.Operand.tmp 0), type := 89, pos := "heap.go:11", after := #[], guard := none }) (v := ?_) rfl (by kernel_rfl) (by kernel_rfl) (by kernel_rfl) (fun _ _ _ h => h) (Or.inl ⟨by rfl, ?_⟩) ?_
  rotate_left
  · (intro w; go_simp; try with_reducible rfl)
  (try simp only [Act.put]); (try simp only [List.setIfInBounds_toArray]); (try simp only [List.set_cons_succ]); (try simp only [List.set_cons_zero])
  refine wpAny_take (i := 2) (oi := { dst := some 6, op := Go.Op.nilCheck (Go.Operand.tmp 5), type := 0, pos := "heap.go:11", after := #[{ on := 1, ground := Go.Ground.data }], guard := none }) (v := ?_) rfl (by kernel_rfl) (by kernel_rfl) (by kernel_rfl) (fun _ _ _ h => h) (Or.inl ⟨by rfl, ?_⟩) ?_
  rotate_left
  · (intro w; go_simp; try with_reducible rfl)
  (try simp only [Act.put]); (try simp only [List.setIfInBounds_toArray]); (try simp only [List.set_cons_succ]); (try simp only [List.set_cons_zero])
  refine wpAny_take (i := 3) (oi := { dst := some 7, op := Go.Op.fieldAddr 92 (Go.Operand.tmp 6) 0, type := 0, pos := "heap.go:11", after := #[{ on := 2, ground := Go.Ground.data }], guard := none }) (v := ?_) rfl (by kernel_rfl) (by kernel_rfl) (by kernel_rfl) (fun _ _ _ h => h) (Or.inl ⟨by rfl, ?_⟩) ?_
  rotate_left
  · (intro w; go_simp; try with_reducible rfl)
  (try simp only [Act.put]); (try simp only [List.setIfInBounds_toArray]); (try simp only [List.set_cons_succ]); (try simp only [List.set_cons_zero])
  refine wpAny_ready (rs := [4, 5]) (by kernel_rfl) (by simp) ?_
  refine AllReady.cons (o := { dst := some 8, op := Go.Op.load 90 (Go.Operand.tmp 7), type := 90, pos := "heap.go:11", after := #[{ on := 3, ground := Go.Ground.data }], guard := none }) rfl (fun K hK => ?_) (AllReady.cons (o := { dst := some 9, op := Go.Op.load 87 (Go.Operand.tmp 3), type := 87, pos := "heap.go:11", after := #[], guard := none }) rfl (fun K hK => ?_) (AllReady.nil))
  · go_simp
    refine hK _ _ ?_
    clear hK K
    (try simp only [Act.put]); (try simp only [List.setIfInBounds_toArray]); (try simp only [List.set_cons_succ]); (try simp only [List.set_cons_zero])
    refine wpAny_ready (rs := [5]) (by kernel_rfl) (by simp) ?_
    refine AllReady.cons (o := { dst := some 9, op := Go.Op.load 87 (Go.Operand.tmp 3), type := 87, pos := "heap.go:11", after := #[], guard := none }) rfl (fun K hK => ?_) (AllReady.nil)
    · go_simp
      refine hK _ _ ?_
      clear hK K
      (try simp only [Act.put]); (try simp only [List.setIfInBounds_toArray]); (try simp only [List.set_cons_succ]); (try simp only [List.set_cons_zero])
      refine wpAny_ready (rs := [6]) (by kernel_rfl) (by simp) ?_
      refine AllReady.cons (o := { dst := some 10, op := Go.Op.buildSlice 90 1 #[(0, Go.Operand.tmp 9)], type := 90, pos := "heap.go:11", after := #[{ on := 5, ground := Go.Ground.data }], guard := none }) rfl (fun K hK => ?_) (AllReady.nil)
      · go_simp
        refine hK _ _ ?_
        clear hK K
        (try simp only [Act.put]); (try simp only [List.setIfInBounds_toArray]); (try simp only [List.set_cons_succ]); (try simp only [List.set_cons_zero])
        refine wpAny_ready (rs := [7]) (by kernel_rfl) (by simp) ?_
        refine AllReady.cons (o := { dst := some 11, op := Go.Op.call { callee := Go.Callee.builtin Go.Builtin.append, args := #[Go.Operand.tmp 8, Go.Operand.tmp 10], argTypes := #[90, 90] }, type := 90, pos := "heap.go:11", after := #[{ on := 4, ground := Go.Ground.data }, { on := 6, ground := Go.Ground.data }], guard := none }) rfl (fun K hK => ?_) (AllReady.nil)
        · rw [if_pos (by rfl)]
          refine wp_append_r _ _ rfl RUN.out rfl rfl ?_
          refine hK _ _ ?_
          clear hK K
          (try simp only [Act.put]); (try simp only [List.setIfInBounds_toArray]); (try simp only [List.set_cons_succ]); (try simp only [List.set_cons_zero])
          refine wpAny_take (i := 8) (oi := { dst := some 12, op := Go.Op.nilCheck (Go.Operand.tmp 4), type := 0, pos := "heap.go:11", after := #[{ on := 0, ground := Go.Ground.data }, { on := 0, ground := Go.Ground.phase }, { on := 1, ground := Go.Ground.phase }, { on := 2, ground := Go.Ground.phase }, { on := 3, ground := Go.Ground.phase }, { on := 4, ground := Go.Ground.phase }, { on := 5, ground := Go.Ground.phase }, { on := 6, ground := Go.Ground.phase }, { on := 7, ground := Go.Ground.phase }], guard := none }) (v := ?_) rfl (by kernel_rfl) (by kernel_rfl) (by kernel_rfl) (fun _ _ _ h => h) (Or.inl ⟨by rfl, ?_⟩) ?_
          rotate_left
          · (intro w; go_simp; try with_reducible rfl)
          (try simp only [Act.put]); (try simp only [List.setIfInBounds_toArray]); (try simp only [List.set_cons_succ]); (try simp only [List.set_cons_zero])
          refine wpAny_take (i := 9) (oi := { dst := some 13, op := Go.Op.fieldAddr 92 (Go.Operand.tmp 12) 0, type := 0, pos := "heap.go:11", after := #[{ on := 8, ground := Go.Ground.data }, { on := 0, ground := Go.Ground.phase }, { on := 1, ground := Go.Ground.phase }, { on := 2, ground := Go.Ground.phase }, { on := 3, ground := Go.Ground.phase }, { on := 4, ground := Go.Ground.phase }, { on := 5, ground := Go.Ground.phase }, { on := 6, ground := Go.Ground.phase }, { on := 7, ground := Go.Ground.phase }], guard := none }) (v := ?_) rfl (by kernel_rfl) (by kernel_rfl) (by kernel_rfl) (fun _ _ _ h => h) (Or.inl ⟨by rfl, ?_⟩) ?_
          rotate_left
          · (intro w; go_simp; try with_reducible rfl)
          (try simp only [Act.put]); (try simp only [List.setIfInBounds_toArray]); (try simp only [List.set_cons_succ]); (try simp only [List.set_cons_zero])
          refine wpAny_ready (rs := [10]) (by kernel_rfl) (by simp) ?_
          refine AllReady.cons (o := { dst := none, op := Go.Op.store 90 (Go.Operand.tmp 13) (Go.Operand.tmp 11), type := 0, pos := "heap.go:11", after := #[{ on := 9, ground := Go.Ground.data }, { on := 7, ground := Go.Ground.data }, { on := 7, ground := Go.Ground.chain }, { on := 0, ground := Go.Ground.phase }, { on := 1, ground := Go.Ground.phase }, { on := 2, ground := Go.Ground.phase }, { on := 3, ground := Go.Ground.phase }, { on := 4, ground := Go.Ground.phase }, { on := 5, ground := Go.Ground.phase }, { on := 6, ground := Go.Ground.phase }, { on := 7, ground := Go.Ground.phase }], guard := none }) rfl (fun K hK => ?_) (AllReady.nil)
          · go_simp
            refine hK _ _ ?_
            clear hK K
            (try simp only [Act.put]); (try simp only [List.setIfInBounds_toArray]); (try simp only [List.set_cons_succ]); (try simp only [List.set_cons_zero])
            refine wpAny_done (by kernel_rfl) ?_ _
            go_wp2_with fail
            refine UP.out.mono ?_
            rintro e w6 ⟨rfl, r6, k6⟩
            have F := hid (FIN.out w6 r6 k6)
            clear r6 k6 UP FIN
            go_wp2_with fail
            go_end0
            exact ⟨rfl, F.out⟩
  · go_simp
    refine hK _ _ ?_
    clear hK K
    (try simp only [Act.put]); (try simp only [List.setIfInBounds_toArray]); (try simp only [List.set_cons_succ]); (try simp only [List.set_cons_zero])
    refine wpAny_ready (rs := [4, 6]) (by kernel_rfl) (by simp) ?_
    refine AllReady.cons (o := { dst := some 8, op := Go.Op.load 90 (Go.Operand.tmp 7), type := 90, pos := "heap.go:11", after := #[{ on := 3, ground := Go.Ground.data }], guard := none }) rfl (fun K hK => ?_) (AllReady.cons (o := { dst := some 10, op := Go.Op.buildSlice 90 1 #[(0, Go.Operand.tmp 9)], type := 90, pos := "heap.go:11", after := #[{ on := 5, ground := Go.Ground.data }], guard := none }) rfl (fun K hK => ?_) (AllReady.nil))
    · go_simp
      refine hK _ _ ?_
      clear hK K
      (try simp only [Act.put]); (try simp only [List.setIfInBounds_toArray]); (try simp only [List.set_cons_succ]); (try simp only [List.set_cons_zero])
      refine wpAny_ready (rs := [6]) (by kernel_rfl) (by simp) ?_
      refine AllReady.cons (o := { dst := some 10, op := Go.Op.buildSlice 90 1 #[(0, Go.Operand.tmp 9)], type := 90, pos := "heap.go:11", after := #[{ on := 5, ground := Go.Ground.data }], guard := none }) rfl (fun K hK => ?_) (AllReady.nil)
      · go_simp
        refine hK _ _ ?_
        clear hK K
        (try simp only [Act.put]); (try simp only [List.setIfInBounds_toArray]); (try simp only [List.set_cons_succ]); (try simp only [List.set_cons_zero])
        refine wpAny_ready (rs := [7]) (by kernel_rfl) (by simp) ?_
        refine AllReady.cons (o := { dst := some 11, op := Go.Op.call { callee := Go.Callee.builtin Go.Builtin.append, args := #[Go.Operand.tmp 8, Go.Operand.tmp 10], argTypes := #[90, 90] }, type := 90, pos := "heap.go:11", after := #[{ on := 4, ground := Go.Ground.data }, { on := 6, ground := Go.Ground.data }], guard := none }) rfl (fun K hK => ?_) (AllReady.nil)
        · rw [if_pos (by rfl)]
          refine wp_append_r _ _ rfl RUN.out rfl rfl ?_
          refine hK _ _ ?_
          clear hK K
          (try simp only [Act.put]); (try simp only [List.setIfInBounds_toArray]); (try simp only [List.set_cons_succ]); (try simp only [List.set_cons_zero])
          refine wpAny_take (i := 8) (oi := { dst := some 12, op := Go.Op.nilCheck (Go.Operand.tmp 4), type := 0, pos := "heap.go:11", after := #[{ on := 0, ground := Go.Ground.data }, { on := 0, ground := Go.Ground.phase }, { on := 1, ground := Go.Ground.phase }, { on := 2, ground := Go.Ground.phase }, { on := 3, ground := Go.Ground.phase }, { on := 4, ground := Go.Ground.phase }, { on := 5, ground := Go.Ground.phase }, { on := 6, ground := Go.Ground.phase }, { on := 7, ground := Go.Ground.phase }], guard := none }) (v := ?_) rfl (by kernel_rfl) (by kernel_rfl) (by kernel_rfl) (fun _ _ _ h => h) (Or.inl ⟨by rfl, ?_⟩) ?_
          rotate_left
          · (intro w; go_simp; try with_reducible rfl)
          (try simp only [Act.put]); (try simp only [List.setIfInBounds_toArray]); (try simp only [List.set_cons_succ]); (try simp only [List.set_cons_zero])
          refine wpAny_take (i := 9) (oi := { dst := some 13, op := Go.Op.fieldAddr 92 (Go.Operand.tmp 12) 0, type := 0, pos := "heap.go:11", after := #[{ on := 8, ground := Go.Ground.data }, { on := 0, ground := Go.Ground.phase }, { on := 1, ground := Go.Ground.phase }, { on := 2, ground := Go.Ground.phase }, { on := 3, ground := Go.Ground.phase }, { on := 4, ground := Go.Ground.phase }, { on := 5, ground := Go.Ground.phase }, { on := 6, ground := Go.Ground.phase }, { on := 7, ground := Go.Ground.phase }], guard := none }) (v := ?_) rfl (by kernel_rfl) (by kernel_rfl) (by kernel_rfl) (fun _ _ _ h => h) (Or.inl ⟨by rfl, ?_⟩) ?_
          rotate_left
          · (intro w; go_simp; try with_reducible rfl)
          (try simp only [Act.put]); (try simp only [List.setIfInBounds_toArray]); (try simp only [List.set_cons_succ]); (try simp only [List.set_cons_zero])
          refine wpAny_ready (rs := [10]) (by kernel_rfl) (by simp) ?_
          refine AllReady.cons (o := { dst := none, op := Go.Op.store 90 (Go.Operand.tmp 13) (Go.Operand.tmp 11), type := 0, pos := "heap.go:11", after := #[{ on := 9, ground := Go.Ground.data }, { on := 7, ground := Go.Ground.data }, { on := 7, ground := Go.Ground.chain }, { on := 0, ground := Go.Ground.phase }, { on := 1, ground := Go.Ground.phase }, { on := 2, ground := Go.Ground.phase }, { on := 3, ground := Go.Ground.phase }, { on := 4, ground := Go.Ground.phase }, { on := 5, ground := Go.Ground.phase }, { on := 6, ground := Go.Ground.phase }, { on := 7, ground := Go.Ground.phase }], guard := none }) rfl (fun K hK => ?_) (AllReady.nil)
          · go_simp
            refine hK _ _ ?_
            clear hK K
            (try simp only [Act.put]); (try simp only [List.setIfInBounds_toArray]); (try simp only [List.set_cons_succ]); (try simp only [List.set_cons_zero])
            refine wpAny_done (by kernel_rfl) ?_ _
            go_wp2_with fail
            refine UP.out.mono ?_
            rintro e w6 ⟨rfl, r6, k6⟩
            have F := hid (FIN.out w6 r6 k6)
            clear r6 k6 UP FIN
            go_wp2_with fail
            go_end0
            exact ⟨rfl, F.out⟩
    · go_simp
      refine hK _ _ ?_
      clear hK K
      (try simp only [Act.put]); (try simp only [List.setIfInBounds_toArray]); (try simp only [List.set_cons_succ]); (try simp only [List.set_cons_zero])
      refine wpAny_ready (rs := [4]) (by kernel_rfl) (by simp) ?_
      refine AllReady.cons (o := { dst := some 8, op := Go.Op.load 90 (Go.Operand.tmp 7), type := 90, pos := "heap.go:11", after := #[{ on := 3, ground := Go.Ground.data }], guard := none }) rfl (fun K hK => ?_) (AllReady.nil)
      · go_simp
        refine hK _ _ ?_
        clear hK K
        (try simp only [Act.put]); (try simp only [List.setIfInBounds_toArray]); (try simp only [List.set_cons_succ]); (try simp only [List.set_cons_zero])
        refine wpAny_ready (rs := [7]) (by kernel_rfl) (by simp) ?_
        refine AllReady.cons (o := { dst := some 11, op := Go.Op.call { callee := Go.Callee.builtin Go.Builtin.append, args := #[Go.Operand.tmp 8, Go.Operand.tmp 10], argTypes := #[90, 90] }, type := 90, pos := "heap.go:11", after := #[{ on := 4, ground := Go.Ground.data }, { on := 6, ground := Go.Ground.data }], guard := none }) rfl (fun K hK => ?_) (AllReady.nil)
        · rw [if_pos (by rfl)]
          refine wp_append_r _ _ rfl RUN.out rfl rfl ?_
          refine hK _ _ ?_
          clear hK K
          (try simp only [Act.put]); (try simp only [List.setIfInBounds_toArray]); (try simp only [List.set_cons_succ]); (try simp only [List.set_cons_zero])
          refine wpAny_take (i := 8) (oi := { dst := some 12, op := Go.Op.nilCheck (Go.Operand.tmp 4), type := 0, pos := "heap.go:11", after := #[{ on := 0, ground := Go.Ground.data }, { on := 0, ground := Go.Ground.phase }, { on := 1, ground := Go.Ground.phase }, { on := 2, ground := Go.Ground.phase }, { on := 3, ground := Go.Ground.phase }, { on := 4, ground := Go.Ground.phase }, { on := 5, ground := Go.Ground.phase }, { on := 6, ground := Go.Ground.phase }, { on := 7, ground := Go.Ground.phase }], guard := none }) (v := ?_) rfl (by kernel_rfl) (by kernel_rfl) (by kernel_rfl) (fun _ _ _ h => h) (Or.inl ⟨by rfl, ?_⟩) ?_
          rotate_left
          · (intro w; go_simp; try with_reducible rfl)
          (try simp only [Act.put]); (try simp only [List.setIfInBounds_toArray]); (try simp only [List.set_cons_succ]); (try simp only [List.set_cons_zero])
          refine wpAny_take (i := 9) (oi := { dst := some 13, op := Go.Op.fieldAddr 92 (Go.Operand.tmp 12) 0, type := 0, pos := "heap.go:11", after := #[{ on := 8, ground := Go.Ground.data }, { on := 0, ground := Go.Ground.phase }, { on := 1, ground := Go.Ground.phase }, { on := 2, ground := Go.Ground.phase }, { on := 3, ground := Go.Ground.phase }, { on := 4, ground := Go.Ground.phase }, { on := 5, ground := Go.Ground.phase }, { on := 6, ground := Go.Ground.phase }, { on := 7, ground := Go.Ground.phase }], guard := none }) (v := ?_) rfl (by kernel_rfl) (by kernel_rfl) (by kernel_rfl) (fun _ _ _ h => h) (Or.inl ⟨by rfl, ?_⟩) ?_
          rotate_left
          · (intro w; go_simp; try with_reducible rfl)
          (try simp only [Act.put]); (try simp only [List.setIfInBounds_toArray]); (try simp only [List.set_cons_succ]); (try simp only [List.set_cons_zero])
          refine wpAny_ready (rs := [10]) (by kernel_rfl) (by simp) ?_
          refine AllReady.cons (o := { dst := none, op := Go.Op.store 90 (Go.Operand.tmp 13) (Go.Operand.tmp 11), type := 0, pos := "heap.go:11", after := #[{ on := 9, ground := Go.Ground.data }, { on := 7, ground := Go.Ground.data }, { on := 7, ground := Go.Ground.chain }, { on := 0, ground := Go.Ground.phase }, { on := 1, ground := Go.Ground.phase }, { on := 2, ground := Go.Ground.phase }, { on := 3, ground := Go.Ground.phase }, { on := 4, ground := Go.Ground.phase }, { on := 5, ground := Go.Ground.phase }, { on := 6, ground := Go.Ground.phase }, { on := 7, ground := Go.Ground.phase }], guard := none }) rfl (fun K hK => ?_) (AllReady.nil)
          · go_simp
            refine hK _ _ ?_
            clear hK K
            (try simp only [Act.put]); (try simp only [List.setIfInBounds_toArray]); (try simp only [List.set_cons_succ]); (try simp only [List.set_cons_zero])
            refine wpAny_done (by kernel_rfl) ?_ _
            go_wp2_with fail
            refine UP.out.mono ?_
            rintro e w6 ⟨rfl, r6, k6⟩
            have F := hid (FIN.out w6 r6 k6)
            clear r6 k6 UP FIN
            go_wp2_with fail
            go_end0
            exact ⟨rfl, F.out⟩
end Go.Proofs.YtpmmbaahoegmlaaGreatDoor
