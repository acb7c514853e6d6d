/-
  Texts put together: ReV, ReSN, ReTop, ReSo, ReGr.
-/
import Derived.Test.YtigmhnlcmhpepaaGreatDoorReT
import Derived.Laws.IdiomCopy
import Derived.Test.YtigmhnlcmhpepaaGreatDoorGI
import Derived.ArgAppend
import Derived.WalkSpells
import Derived.Test.YtigmhnlcmhpepaaGreatDoorReU
namespace Go.Proofs.YtigmhnlcmhpepaaGreatDoor
open Go Go.RowKit Go.Deep Go.Shelf

/-- copy of things of k cells. -/
theorem run_copy_k {P : Program} (w : World) (dT sT ty elem : TypeId) (k b o dLen dCap : Nat) (a : Addr) (sLen sCap : Nat) (cs : List Value)
    (hu : P.underlying dT = some (.slice elem)) (hs : (P.info? elem).map (·.size) = some k) (hn : cs.length = Nat.min sLen dLen * k)
    (hsrc : ∀ j v, cs[j]? = some v → w.cell? (a.add j) = some v) (hc : ∀ j, j < cs.length → (w.cell? ⟨b, o + j, none⟩).isSome = true) (hf : ∀ j, j < cs.length → w.frozen? ⟨b, o + j, none⟩ = false) (h1 : ∀ v ∈ cs, v.oneCell' = true) :
    (Builtin.copy_ #[dT, sT] ty #[.slice (some ⟨b, o, none⟩) dLen dCap, .slice (some a) sLen sCap]).run P w = .ok (goInt (Nat.min sLen dLen)) (w.setCells b o cs) := by
  have hl := run_loadCells_list (P := P) w a cs hsrc
  have hst := run_storeCells_cells (P := P) b o cs 0 w (by simpa using hc) (by simpa using hf) h1
  cases hq : P.info? elem with
  | none => simp [hq] at hs
  | some i =>
    have hi : i.size = k := by simpa [hq] using hs
    simp [Builtin.copy_, run_underlying hu, Builtin.lenOf, Builtin.firstCells, sizeOf, typeInfo, hq, hi, ← hn, hl, hst]
theorem run_copy_k0 {P : Program} (w : World) (dT sT ty elem : TypeId) (k : Nat) (d a : Option Addr) (dLen dCap sLen sCap : Nat) (hu : P.underlying dT = some (.slice elem)) (hs : (P.info? elem).map (·.size) = some k) (hn : Nat.min sLen dLen = 0) :
    (Builtin.copy_ #[dT, sT] ty #[.slice d dLen dCap, .slice a sLen sCap]).run P w = .ok (goInt 0) w := by
  cases hq : P.info? elem with
  | none => simp [hq] at hs
  | some i =>
    have hl : ∀ (x : Addr), (loadCells x 0).run P w = .ok #[] w := fun x => by simpa using run_loadCells_list (P := P) w x [] (by simp)
    cases d <;> cases a <;> simp [Builtin.copy_, run_underlying hu, Builtin.lenOf, Builtin.firstCells, sizeOf, typeInfo, hq, hn, storeCells, hl]

namespace Re
def ev (a : Vl) : List Value := [.int .i64 a.k, .int .u64 a.n, .string a.s]
theorem ev_len (a : Vl) : (ev a).length = 3 := rfl
def zv : Vl := ⟨0, 0, ⟨#[]⟩⟩
theorem ev_one (A : List Vl) : ∀ v ∈ fl ev A, v.oneCell' = true := fun v hv => by
  obtain ⟨a, _, h⟩ := List.mem_flatMap.1 hv
  simp only [ev, List.mem_cons, List.not_mem_nil, or_false] at h
  rcases h with rfl | rfl | rfl <;> rfl
theorem infoV : (Tryz.prog.info? 24).map (fun i => (i.zero, i.size, i.bytes)) = some (some (.agg #[.int .i64 0, .int .u64 0, .string ⟨#[]⟩]), 3, 32) := by kernel_rfl
theorem sizeV : (Tryz.prog.info? 24).map (·.size) = some 3 := by kernel_rfl
theorem make_v (n : Nat) (hn : n ≤ 4398046511104) (W : World) : (Instr.makeSlice 38 (.int .i64 (n : Int)) (.int .i64 (n : Int))).run Tryz.prog W = .ok (.slice (some ⟨W.heap.size, 0, none⟩) n n) (W.alloc (.cells (fl ev (List.replicate n zv)).toArray 24)) := by
  obtain ⟨i, hi, hz⟩ := Option.map_eq_some_iff.1 infoV
  simp only [Prod.mk.injEq] at hz
  obtain ⟨z1, z2, z3⟩ := hz
  have := run_make (P := Tryz.prog) W 38 24 i _ Tryz.underlying38 hi z1 .i64 .i64 (n : Int) (n : Int) (by omega) (by omega) (by rw [z3]; omega) (by omega)
  rw [this, z2, Int.toNat_natCast]
  have e := made_fl ev_len zv (by omega) n
  rw [← e]
  rfl
theorem LV.src {w : World} {b off : Nat} {A : List Vl} (h : ∀ i a, A[i]? = some a → w.cell? ⟨b, off + i * 3, none⟩ = some (.int .i64 a.k) ∧ w.cell? ⟨b, off + i * 3 + 1, none⟩ = some (.int .u64 a.n) ∧ w.cell? ⟨b, off + i * 3 + 2, none⟩ = some (.string a.s)) :
    ∀ j v, (fl ev A)[j]? = some v → w.cell? ((⟨b, off, none⟩ : Addr).add j) = some v := fun j v hv => by
  have hj : j < A.length * 3 := by rw [← fl_len ev_len A]; exact (List.getElem?_eq_some_iff.1 hv).1
  have hi : j / 3 < A.length := by omega
  obtain ⟨c0, c1, c2⟩ := h (j / 3) A[j / 3] (List.getElem?_eq_getElem hi)
  have e := fl_at ev_len (List.getElem?_eq_getElem hi) (j % 3) (by omega)
  rw [Nat.div_add_mod'] at e
  rw [hv] at e
  rw [Go.WideShapes.add_plain]
  have hm := Nat.div_add_mod' j 3
  rcases (show j % 3 = 0 ∨ j % 3 = 1 ∨ j % 3 = 2 by omega) with r | r | r
  · rw [r] at e hm
    rw [show off + j = off + j / 3 * 3 by omega, c0]
    exact e.symm
  · rw [r] at e hm
    rw [show off + j = off + j / 3 * 3 + 1 by omega, c1]
    exact e.symm
  · rw [r] at e hm
    rw [show off + j = off + j / 3 * 3 + 2 by omega, c2]
    exact e.symm
/-- A block of values can be read. -/
theorem LV.row {w : World} {g : Nat} {A : List Vl} (h : Bx w g 24 (fl ev A).toArray) : LV w (some ⟨g, 0, none⟩) A := by
  refine .inr ⟨g, 0, rfl, fun i a ha => ?_⟩
  rw [Nat.zero_add]
  exact ⟨bx_cell ev_len h ha 0 (by omega) _ rfl, bx_cell ev_len h ha 1 (by omega) _ rfl, bx_cell ev_len h ha 2 (by omega) _ rfl⟩
theorem copy_v (g n : Nat) (p : Option Addr) (cap : Nat) (A : List Vl) (ty : TypeId) (w : World) (hn : A.length = n) (hg : Bx w g 24 (fl ev (List.replicate n zv)).toArray) (hv : LV w p A) :
    ∃ w', (Builtin.copy_ #[38, 38] ty #[.slice (some ⟨g, 0, none⟩) n n, .slice p n cap]).run Tryz.prog w = .ok (.int .i64 (n : Int)) w' ∧ Bx w' g 24 (fl ev A).toArray ∧ Kp (fun b => b = g) w w' := by
  rcases hv with rfl | ⟨b, off, rfl, h⟩
  · obtain rfl : n = 0 := by simpa using hn.symm
    exact ⟨w, run_copy_k0 w 38 38 ty 24 3 _ _ _ _ _ _ Tryz.underlying38 sizeV (by simp), hg, Kp.refl _ _⟩
  · have l1 := fl_len ev_len A
    have l2 := fl_len ev_len (List.replicate n zv)
    rw [List.length_replicate] at l2
    rw [hn] at l1
    have cc : ∀ j, j < (fl ev A).length → (w.cell? ⟨g, 0 + j, none⟩).isSome = true := fun j hj => by
      have := hg.cell (0 + j) _ (show (fl ev (List.replicate n zv)).toArray[0 + j]? = some _ by rw [List.getElem?_toArray]; exact List.getElem?_eq_getElem (by omega))
      rw [this]; rfl
    have r := run_copy_k (P := Tryz.prog) w 38 38 ty 24 3 g 0 n n ⟨b, off, none⟩ n cap (fl ev A) Tryz.underlying38 sizeV (by rw [l1]; simp) (LV.src h) cc (fun j _ => hg.free _) (ev_one A)
    have x := bx_setc (fl ev A) 0 w (fl ev (List.replicate n zv)) hg (by omega)
    rw [List.take_zero, List.nil_append, List.drop_of_length_le (by omega), List.append_nil] at x
    refine ⟨w.setCells g 0 (fl ev A), ?_, x, (Kp.refl (fun b => b = g) w).setcs (.inl rfl) 0 (fl ev A)⟩
    rw [r]
    simp [goInt]
end Re


end Go.Proofs.YtigmhnlcmhpepaaGreatDoor

namespace Go.Proofs.YtigmhnlcmhpepaaGreatDoor
open Go Go.RowKit Go.Deep Go.Shelf

namespace Re
theorem Sorts.uniq {A : List Vl} {P Q : List Int} (h : Sorts A P) (k : Sorts A Q) : P = Q := by
  obtain ⟨D, p, s, rfl⟩ := h
  obtain ⟨E, q, t, rfl⟩ := k
  rw [List.Perm.eq_of_pairwise (le := fun x y => ct x y ≤ 0) (fun a b _ _ h1 h2 => by have := ct_anti a b; exact ct_zero (by omega)) s t (p.trans q.symm)]
theorem tks_i (A : List Vl) : (tks A).map (·.i) = (List.range A.length).map fun i : Nat => (i : Int) := by
  apply List.ext_getElem?
  intro i
  rw [List.getElem?_map, List.getElem?_map]
  by_cases h : i < A.length
  · rw [tks_at (List.getElem?_eq_getElem h), List.getElem?_range h]
    rfl
  · rw [List.getElem?_eq_none (by rw [tks_len]; omega), List.getElem?_eq_none (by rw [List.length_range]; omega)]
    rfl
theorem Sorts.perm {A : List Vl} {P : List Int} (h : Sorts A P) : P.Perm ((List.range A.length).map fun i : Nat => (i : Int)) := by
  obtain ⟨D, p, s, rfl⟩ := h
  have := p.map (·.i)
  rwa [tks_i] at this
theorem Sorts.nodup {A : List Vl} {P : List Int} (h : Sorts A P) : P.Nodup := by
  refine h.perm.symm.nodup ?_
  rw [List.nodup_iff_pairwise_ne, List.pairwise_map]
  refine List.Pairwise.imp (fun {a b} (hab : a < b) => ?_) List.pairwise_lt_range
  omega
theorem tks_mem {A : List Vl} {d : Tk} (h : d ∈ tks A) : ∃ (j : Nat) (a : Vl), j < A.length ∧ A[j]? = some a ∧ d = ⟨rt a.k a.n a.s, (j : Int)⟩ := by
  obtain ⟨j, hj, e⟩ := List.getElem_of_mem h
  have hl : j < A.length := by rwa [tks_len] at hj
  have e2 := tks_at (List.getElem?_eq_getElem hl)
  rw [List.getElem?_eq_getElem hj, e] at e2
  exact ⟨j, A[j], hl, List.getElem?_eq_getElem hl, Option.some.inj e2⟩
/-- The values in the order of the places. -/
def agn (A : List Vl) (P : List Int) : List Vl := P.map fun x => (A[x.toNat]?).getD ⟨0, 0, ⟨#[]⟩⟩
theorem agn_len (A : List Vl) (P : List Int) : (agn A P).length = P.length := by rw [agn, List.length_map]
theorem agn_at {A : List Vl} {P : List Int} {i j : Nat} {a : Vl} (h : P[i]? = some (j : Int)) (k : A[j]? = some a) : (agn A P)[i]? = some a := by
  rw [agn, List.getElem?_map, h]
  simp [k]
theorem Sorts.at {A : List Vl} {P : List Int} (h : Sorts A P) {i : Nat} (hi : i < P.length) : ∃ (j : Nat) (a : Vl), j < A.length ∧ P[i]? = some (j : Int) ∧ A[j]? = some a ∧ (agn A P)[i]? = some a := by
  obtain ⟨D, p, s, e⟩ := h
  have hd : i < D.length := by rw [e, List.length_map] at hi; exact hi
  obtain ⟨j, a, hj, ha, ed⟩ := tks_mem (p.mem_iff.1 (List.getElem_mem hd))
  have hP : P[i]? = some (j : Int) := by rw [e, List.getElem?_map, List.getElem?_eq_getElem hd, ed]; rfl
  exact ⟨j, a, hj, hP, ha, agn_at hP ha⟩
theorem Sorts.next {A : List Vl} {P : List Int} (h : Sorts A P) {i l j k : Nat} {a b : Vl} (hil : i < l) (h1 : P[i]? = some (j : Int)) (h2 : P[l]? = some (k : Int)) (ha : A[j]? = some a) (hb : A[k]? = some b) :
    cm (rt a.k a.n a.s) (rt b.k b.n b.s) < 0 ∨ (cm (rt a.k a.n a.s) (rt b.k b.n b.s) = 0 ∧ (j : Int) ≤ (k : Int)) := by
  obtain ⟨D, p, s, e⟩ := h
  rw [e, List.getElem?_map, Option.map_eq_some_iff] at h1 h2
  obtain ⟨x, hx, x1⟩ := h1
  obtain ⟨y, hy, y1⟩ := h2
  obtain ⟨j', a', _, ha', ex⟩ := tks_mem (p.mem_iff.1 (List.mem_of_getElem? hx))
  obtain ⟨k', b', _, hb', ey⟩ := tks_mem (p.mem_iff.1 (List.mem_of_getElem? hy))
  have jj : j' = j := by rw [ex] at x1; exact Int.ofNat.inj x1
  have kk : k' = k := by rw [ey] at y1; exact Int.ofNat.inj y1
  subst jj kk
  rw [ha] at ha'
  rw [hb] at hb'
  obtain rfl := Option.some.inj ha'
  obtain rfl := Option.some.inj hb'
  rw [List.pairwise_iff_getElem] at s
  have hx' := List.getElem?_eq_some_iff.1 hx
  have hy' := List.getElem?_eq_some_iff.1 hy
  have := s i l hx'.1 hy'.1 hil
  rw [hx'.2, hy'.2, ct_le, ex, ey] at this
  exact this
theorem Sorts.again {A : List Vl} {P Q : List Int} (h : Sorts A P) (k : Sorts (agn A P) Q) : Q = (List.range P.length).map fun i : Nat => (i : Int) := by
  have own : Sorts (agn A P) ((tks (agn A P)).map (·.i)) := by
    refine ⟨tks (agn A P), List.Perm.refl _, ?_, rfl⟩
    rw [List.pairwise_iff_getElem]
    intro i l hi hl hil
    have hi' : i < P.length := by rwa [tks_len, agn_len] at hi
    have hl' : l < P.length := by rwa [tks_len, agn_len] at hl
    obtain ⟨j, a, _, h1, ha, ga⟩ := h.at hi'
    obtain ⟨m, b, _, h2, hb, gb⟩ := h.at hl'
    have e1 := tks_at ga
    have e2 := tks_at gb
    rw [List.getElem?_eq_getElem hi] at e1
    rw [List.getElem?_eq_getElem hl] at e2
    rw [Option.some.inj e1, Option.some.inj e2, ct_le]
    rcases h.next hil h1 h2 ha hb with z | z
    · exact .inl z
    · exact .inr ⟨z.1, by show (i : Int) ≤ (l : Int); omega⟩
  rw [k.uniq own, tks_i, agn_len]
/-- Which places have come. -/
def sn (P : List Int) (n i : Nat) : List Bool := (List.range n).map fun j : Nat => decide ((j : Int) ∈ P.take i)
theorem sn_len (P : List Int) (n i : Nat) : (sn P n i).length = n := by rw [sn, List.length_map, List.length_range]
theorem sn_zero (P : List Int) (n : Nat) : sn P n 0 = List.replicate n false := by
  apply List.ext_getElem?
  intro j
  rw [sn, List.getElem?_map, List.getElem?_replicate]
  by_cases h : j < n
  · rw [List.getElem?_range h, if_pos h]; simp
  · rw [List.getElem?_eq_none (by rw [List.length_range]; omega), if_neg h]; rfl
theorem sn_at {P : List Int} (hP : P.Nodup) {n i j : Nat} (h : P[i]? = some (j : Int)) (hj : j < n) : (sn P n i)[j]? = some false := by
  rw [sn, List.getElem?_map, List.getElem?_range hj]
  simp only [Option.map_some, Option.some.injEq, decide_eq_false_iff_not]
  intro hm
  obtain ⟨m, hm1, hm2⟩ := List.getElem_of_mem hm
  rw [List.length_take] at hm1
  rw [List.getElem_take] at hm2
  obtain ⟨hi, he⟩ := List.getElem?_eq_some_iff.1 h
  rw [List.nodup_iff_pairwise_ne, List.pairwise_iff_getElem] at hP
  exact hP m i (by omega) hi (by omega) (by rw [hm2, he])
theorem sn_set {P : List Int} {n i j : Nat} (h : P[i]? = some (j : Int)) (hj : j < n) : (sn P n i).set j true = sn P n (i + 1) := by
  apply List.ext_getElem?
  intro k
  by_cases hk : k < n
  · rw [sn, sn, List.getElem?_set, List.getElem?_map, List.getElem?_map, List.getElem?_range hk, List.length_map, List.length_range, List.take_add_one, h]
    by_cases e : j = k
    · subst e
      rw [if_pos rfl, if_pos hj]
      simp
    · rw [if_neg e]
      have : ¬ ((k : Int) = (j : Int)) := fun z => e (by omega)
      simp [this]
  · rw [List.getElem?_eq_none (by rw [List.length_set, sn_len]; omega), List.getElem?_eq_none (by rw [sn_len]; omega)]
end Re
end Go.Proofs.YtigmhnlcmhpepaaGreatDoor

namespace Go.Proofs.YtigmhnlcmhpepaaGreatDoor
open Go Go.RowKit Go.Deep Go.Shelf

theorem wpList_append_t {ty : TypeId} {ops : Array Oper} {rest : List Oper} {o : Oper} {a : Act} {Q : Exit → Act → World → Prop} (hgd : o.guard = none) (s x : Operand)
    (ho : o.op = .call { callee := .builtin .append, args := #[s, x], argTypes := #[ty, ty] }) {v y v' : Value} {w w' : World} (hr : (Builtin.append_ #[ty, ty] o.type #[v, y]).run Tryz.prog w = .ok v' w') (hs : a.eval s = v) (hx : a.eval x = y)
    (h : wpList Tryz.prog ops Q rest (a.put o.dst v') w') : wpList Tryz.prog ops Q (o :: rest) a w := by
  refine wpList_plain hgd fun K hK => ?_
  unfold Oper.wp execOp
  simp only [ho, resolve, invoke, builtin, Sem.run_bind, Sem.run_pure, Result.andThen_ok, List.map_toArray, List.map_cons, List.map_nil, hs, hx, hr]
  exact hK _ _ h

namespace Re
theorem next0 (m : Nat) (h : 0 < m) : Builtin.nextslicecap m 0 = m := by
  unfold Builtin.nextslicecap
  simp
  try omega
theorem src_i {w : World} {g m : Nat} {P : List Int} (h : Bx w g 3 (fl ei P).toArray) (hm : m ≤ P.length) : (fl ei (P.take m)).length = m * 1 ∧ (∀ j u, (fl ei (P.take m))[j]? = some u → w.cell? ((⟨g, 0, none⟩ : Addr).add j) = some u) ∧ ∀ u ∈ fl ei (P.take m), u.oneCell' = true := by
  refine ⟨by rw [fl_len ei_len, List.length_take]; omega, fun j u hu => ?_, fun u hu => ?_⟩
  · have hj : j < (P.take m).length * 1 := by rw [← fl_len ei_len (P.take m)]; exact (List.getElem?_eq_some_iff.1 hu).1
    rw [Nat.mul_one] at hj
    have hj2 : j < m ∧ j < P.length := by rw [List.length_take] at hj; omega
    have e := fl_at ei_len (D := P.take m) (List.getElem?_eq_getElem hj) 0 (by omega)
    rw [Nat.mul_one, Nat.add_zero, hu] at e
    have c := bx_cell ei_len h (List.getElem?_eq_getElem hj2.2) 0 (by omega) _ rfl
    rw [Nat.mul_one, Nat.add_zero] at c
    rw [Go.WideShapes.add_plain, Nat.zero_add, c, e, List.getElem_take]
    rfl
  · obtain ⟨a, _, h⟩ := List.mem_flatMap.1 hu
    simp only [ei, List.mem_cons, List.not_mem_nil, or_false] at h
    rw [h]; rfl
/-- append to nothing. -/
theorem app_i {w : World} {g m n b : Nat} {P : List Int} (h : Bx w g 3 (fl ei P).toArray) (hm : m ≤ P.length) (hl : m ≤ 4398046511104) :
    ∃ b' c w', (Builtin.append_ #[50, 50] 50 #[.slice (some ⟨b, 0, none⟩) 0 0, .slice (some ⟨g, 0, none⟩) m n]).run Tryz.prog w = .ok (.slice (some ⟨b', 0, none⟩) m c) w' ∧ (∀ j x, j < m → P[j]? = some x → w'.cell? ⟨b', j, none⟩ = some (.int .i64 x)) ∧ Below w.heap.size w w' := by
  obtain ⟨i, hi, hz⟩ := Option.map_eq_some_iff.1 infoI
  simp only [Prod.mk.injEq] at hz
  obtain ⟨z1, z2, z3⟩ := hz
  obtain ⟨s1, s2, s3⟩ := src_i h hm
  rw [← z2] at s1
  by_cases m0 : m = 0
  · subst m0
    refine ⟨b, 0, w, ?_, fun j x hj => absurd hj (Nat.not_lt_zero _), Below.refl _ _⟩
    rw [List.take_zero] at s1 s2 s3
    exact run_append_room_cells w 50 50 3 i Tryz.underlying50 hi b 0 0 0 ⟨g, 0, none⟩ 0 n [] (by simp) (by simp) (by simp) (by omega) (by simp) (by simp)
  · have r := run_append_grow w 50 50 3 i _ Tryz.underlying50 hi z1 ⟨b, 0, none⟩ 0 0 [] (by simp) (by simp) ⟨g, 0, none⟩ m n _ s1 s2 (by omega) (by omega) (by rw [Nat.zero_add, next0 m (by omega), z3]; omega)
    rw [Nat.zero_add] at r
    refine ⟨_, _, _, r, fun j x hj hx => ?_, below_on (Below.drew (Below.refl _ _)) (alloc_b _ _)⟩
    have e : (fl ei (P.take m))[j]? = some (.int .i64 x) := by
      have hx2 : (P.take m)[j]? = some x := by rw [List.getElem?_take, if_pos hj]; exact hx
      have := fl_at ei_len hx2 0 (by omega)
      rw [Nat.mul_one, Nat.add_zero] at this
      rw [this]; rfl
    have hb := Bx.new w.drew 3 (([] : List Value).toArray ++ (fl ei (P.take m)).toArray ++ Builtin.zeroCells (Value.int .i64 0).cells (grownCap w m 0 3 - m))
    refine hb.cell j _ ?_
    rw [Array.getElem?_append_left (by simpa using (List.getElem?_eq_some_iff.1 e).1)]
    simpa using e
end Re


end Go.Proofs.YtigmhnlcmhpepaaGreatDoor

namespace Go.Proofs.YtigmhnlcmhpepaaGreatDoor
open Go Go.RowKit Go.Deep Go.Shelf

namespace Re
def eb (x : Bool) : List Value := [.bool x]
theorem eb_len (x : Bool) : (eb x).length = 1 := rfl
theorem infoB : (Tryz.prog.info? 4).map (fun i => (i.zero, i.size, i.bytes)) = some (some (.bool false), 1, 1) := by kernel_rfl
theorem make_b (n : Nat) (hn : n ≤ 4398046511104) (W : World) : (Instr.makeSlice 39 (.int .i64 (n : Int)) (.int .i64 (n : Int))).run Tryz.prog W = .ok (.slice (some ⟨W.heap.size, 0, none⟩) n n) (W.alloc (.cells (fl eb (List.replicate n false)).toArray 4)) := by
  obtain ⟨i, hi, hz⟩ := Option.map_eq_some_iff.1 infoB
  simp only [Prod.mk.injEq] at hz
  obtain ⟨z1, z2, z3⟩ := hz
  have := run_make (P := Tryz.prog) W 39 4 i _ Tryz.underlying39 hi z1 .i64 .i64 (n : Int) (n : Int) (by omega) (by omega) (by rw [z3]; omega) (by omega)
  rw [this, z2, Int.toNat_natCast]
  have e := made_fl eb_len false (by omega) n
  rw [← e]
  rfl
theorem make_v0 (n : Nat) (hn : n ≤ 4398046511104) (W : World) : (Instr.makeSlice 38 (.int .i64 0) (.int .i64 (n : Int))).run Tryz.prog W = .ok (.slice (some ⟨W.heap.size, 0, none⟩) 0 n) (W.alloc (.cells (fl ev (List.replicate n zv)).toArray 24)) := by
  obtain ⟨i, hi, hz⟩ := Option.map_eq_some_iff.1 infoV
  simp only [Prod.mk.injEq] at hz
  obtain ⟨z1, z2, z3⟩ := hz
  have := run_make (P := Tryz.prog) W 38 24 i _ Tryz.underlying38 hi z1 .i64 .i64 (0 : Int) (n : Int) (by omega) (by omega) (by rw [z3]; omega) (by omega)
  rw [this, z2, Int.toNat_natCast]
  have e := made_fl ev_len zv (by omega) n
  rw [← e]
  rfl
/-- The places, what has come, the values in order. -/
structure SS (w : World) (A : List Vl) (P : List Int) (n gp gs ga i : Nat) (W : World) : Prop where
  bp : Bx W gp 3 (fl ei P).toArray
  bs : Bx W gs 4 (fl eb (sn P n i)).toArray
  ba : Bx W ga 24 (fl ev (fil (agn A P) zv i)).toArray
  bl : Below w.heap.size w W
  ls : w.heap.size ≤ gs
  la : w.heap.size ≤ ga
  ps : gs ≠ gp
  pa : ga ≠ gp
  sa : gs ≠ ga
theorem SS.on {w : World} {A : List Vl} {P : List Int} {n gp gs ga i : Nat} {W W' : World} (h : SS w A P n gp gs ga i W) (b : Below W.heap.size W W') : SS w A P n gp gs ga i W' :=
  ⟨h.bp.on b, h.bs.on b, h.ba.on b, below_on h.bl b, h.ls, h.la, h.ps, h.pa, h.sa⟩
theorem SS.pc {w : World} {A : List Vl} {P : List Int} {n gp gs ga i : Nat} {W : World} (h : SS w A P n gp gs ga i W) {l : Nat} {x : Int} (hx : P[l]? = some x) : W.cell? ⟨gp, l, none⟩ = some (.int .i64 x) := by
  have := bx_cell ei_len h.bp hx 0 (by omega) _ rfl
  rwa [Nat.mul_one, Nat.add_zero] at this
theorem SS.sc {w : World} {A : List Vl} {P : List Int} {n gp gs ga i : Nat} {W : World} (h : SS w A P n gp gs ga i W) {j : Nat} {x : Bool} (hx : (sn P n i)[j]? = some x) : W.cell? ⟨gs, j, none⟩ = some (.bool x) := by
  have := bx_cell eb_len h.bs hx 0 (by omega) _ rfl
  rwa [Nat.mul_one, Nat.add_zero] at this
/-- A round: the mark is set, the value is put behind. -/
theorem SS.step {w : World} {A : List Vl} {P : List Int} {n gp gs ga i j : Nat} {W : World} {a : Vl} (h : SS w A P n gp gs ga i W) (hi : P[i]? = some (j : Int)) (hj : j < n) (ha : A[j]? = some a) (hl : P.length = n) :
    ∃ W3, (Builtin.append_ #[38, 38] 38 #[.slice (some ⟨ga, 0, none⟩) i n, .slice (some ⟨(W.setCell ⟨gs, j, none⟩ (.bool true)).heap.size, 0, none⟩) 1 1]).run Tryz.prog ((W.setCell ⟨gs, j, none⟩ (.bool true)).alloc (.cells #[.int .i64 a.k, .int .u64 a.n, .string a.s] 24)) = .ok (.slice (some ⟨ga, 0, none⟩) (i + 1) n) W3 ∧ SS w A P n gp gs ga (i + 1) W3 := by
  have hin : i < n := by rw [← hl]; exact (List.getElem?_eq_some_iff.1 hi).1
  have gi := agn_at hi ha
  have gl : (agn A P).length = n := by rw [agn_len, hl]
  obtain ⟨I, hI, hz⟩ := Option.map_eq_some_iff.1 infoV
  simp only [Prod.mk.injEq] at hz
  obtain ⟨z1, z2, z3⟩ := hz
  have s1 : Bx (W.setCell ⟨gs, j, none⟩ (.bool true)) gs 4 (fl eb (sn P n (i + 1))).toArray := by
    have := bx_put eb_len (i := j) h.bs true (by rw [sn_len]; exact hj)
    rw [sn_set hi hj, Nat.mul_one] at this
    exact this
  have p1 : Bx (W.setCell ⟨gs, j, none⟩ (.bool true)) gp 3 (fl ei P).toArray := h.bp.far h.ps
  have a1 : Bx (W.setCell ⟨gs, j, none⟩ (.bool true)) ga 24 (fl ev (fil (agn A P) zv i)).toArray := h.ba.far h.sa
  have b1 : Below w.heap.size w (W.setCell ⟨gs, j, none⟩ (.bool true)) := h.bl.setCell (p := ⟨gs, j, none⟩) h.ls _
  generalize W.setCell ⟨gs, j, none⟩ (.bool true) = W1 at *
  have bb := alloc_b W1 (.cells #[.int .i64 a.k, .int .u64 a.n, .string a.s] 24)
  have v2 := Bx.new W1 24 #[.int .i64 a.k, .int .u64 a.n, .string a.s]
  have s2 := s1.on bb
  have p2 := p1.on bb
  have a2 := a1.on bb
  have b2 := below_on b1 bb
  clear s1 p1 a1 b1 bb
  generalize hW2 : W1.alloc (.cells #[.int .i64 a.k, .int .u64 a.n, .string a.s] 24) = W2 at *
  have th := bx_there ev_len (i := i) a2 (by rw [fil_len _ _ (by omega)]; omega)
  have r := run_append_room_cells (P := Tryz.prog) W2 38 38 24 I Tryz.underlying38 hI ga 0 i n ⟨W1.heap.size, 0, none⟩ 1 1 (ev a) (by rw [z2]; rfl)
    (fun l u hu => by rw [Go.WideShapes.add_plain, Nat.zero_add]; exact v2.cell l u (by simpa [ev] using hu))
    (fun u hu => by
      simp only [ev, List.mem_cons, List.not_mem_nil, or_false] at hu
      rcases hu with rfl | rfl | rfl <;> rfl) (by omega)
    (fun l hl2 => by rw [z2, Nat.zero_add]; exact (th l hl2).1) (fun l hl2 => by rw [z2, Nat.zero_add]; exact (th l hl2).2)
  rw [z2, Nat.zero_add] at r
  refine ⟨_, r, ?_, ?_, ?_, ?_, h.ls, h.la, h.ps, h.pa, h.sa⟩
  · exact p2.kp ((Kp.refl (fun b => b = ga) W2).setcs (.inl rfl) (i * 3) (ev a)) (fun e => h.pa e.symm)
  · exact s2.kp ((Kp.refl (fun b => b = ga) W2).setcs (.inl rfl) (i * 3) (ev a)) h.sa
  · have := bx_put ev_len (i := i) a2 a (by rw [fil_len _ _ (by omega)]; omega)
    rw [fil_set _ _ gi] at this
    exact this
  · exact b2.trans (((Kp.refl (fun b => b = ga) W2).setcs (.inl rfl) (i * 3) (ev a)).below b2.size (fun b e => by rw [e]; exact h.la))
end Re
end Go.Proofs.YtigmhnlcmhpepaaGreatDoor

namespace Go.Proofs.YtigmhnlcmhpepaaGreatDoor
open Go Go.RowKit Go.Deep Go.Shelf

namespace Re
/-- A row in the block g, with room for cap things. -/
structure GR {α : Type} (enc : α → List Value) (k t base : Nat) (w : World) (g cap : Nat) (A : List α) : Prop where
  bx : ∃ cur : Array Value, Bx w g t cur ∧ cur.size = cap * k ∧ cur.toList.take (A.length * k) = fl enc A
  le : A.length ≤ cap
  cm : cap ≤ maxLen
  bb : base ≤ g
section
variable {α : Type} {enc : α → List Value} {k t base : Nat}
theorem GR.kp {w w' : World} {g cap : Nat} {A : List α} (h : GR enc k t base w g cap A) {S : Nat → Prop} (q : Kp S w w') (hs : ¬ S g) : GR enc k t base w' g cap A := by
  obtain ⟨cur, b, r⟩ := h.bx
  exact ⟨⟨cur, b.kp q hs, r⟩, h.le, h.cm, h.bb⟩
theorem GR.on {w w' : World} {g cap : Nat} {A : List α} (h : GR enc k t base w g cap A) (b : Below w.heap.size w w') : GR enc k t base w' g cap A := by
  obtain ⟨cur, x, r⟩ := h.bx
  exact ⟨⟨cur, x.on b, r⟩, h.le, h.cm, h.bb⟩
theorem GR.lt {w : World} {g cap : Nat} {A : List α} (h : GR enc k t base w g cap A) : g < w.heap.size := by
  obtain ⟨cur, x, r⟩ := h.bx
  exact x.lt
theorem GR.free {w : World} {g cap : Nat} {A : List α} (h : GR enc k t base w g cap A) (i : Nat) : w.frozen? ⟨g, i, none⟩ = false := by
  obtain ⟨cur, x, r⟩ := h.bx
  exact x.free i
theorem GR.new (w : World) (hb : base ≤ w.heap.size) : GR enc k t base (w.alloc (.cells #[] t)) w.heap.size 0 ([] : List α) :=
  ⟨⟨#[], Bx.new w t #[], by simp, by simp [fl]⟩, Nat.le_refl _, Nat.zero_le _, hb⟩
variable (hk : ∀ x, (enc x).length = k)
include hk
theorem GR.cell {w : World} {g cap : Nat} {A : List α} (h : GR enc k t base w g cap A) {i : Nat} {a : α} (hi : A[i]? = some a) (j : Nat) (hj : j < k) (v : Value) (hv : (enc a)[j]? = some v) : w.cell? ⟨g, i * k + j, none⟩ = some v := by
  obtain ⟨cur, x, s, r⟩ := h.bx
  refine x.cell _ _ ?_
  have e := fl_at hk hi j hj
  rw [← r, hv, List.getElem?_take] at e
  split at e
  · rw [← Array.getElem?_toList]; exact e
  · simp at e
/-- One of its things, written. -/
theorem GR.put {w : World} {g cap : Nat} {A : List α} (h : GR enc k t base w g cap A) {i : Nat} (hi : i < A.length) (x : α) : GR enc k t base (w.setCells g (i * k) (enc x)) g cap (A.set i x) := by
  obtain ⟨cur, b, s, r⟩ := h.bx
  have cl : cur.toList.length = cap * k := by rw [Array.length_toList]; exact s
  have m : i * k + k ≤ A.length * k := by
    have := Nat.mul_le_mul_right k (show i + 1 ≤ A.length from hi)
    rwa [Nat.add_mul, Nat.one_mul] at this
  have m2 := Nat.mul_le_mul_right k h.le
  have y := bx_setc (t := t) (enc x) (i * k) w cur.toList b (by rw [hk, cl]; omega)
  rw [hk] at y
  refine ⟨⟨_, y, ?_, ?_⟩, by rw [List.length_set]; exact h.le, h.cm, h.bb⟩
  · rw [List.size_toArray, List.length_append, List.length_append, List.length_take, List.length_drop, hk, cl]
    omega
  · rw [List.length_set, ← fl_set hk A i x hi, ← r, List.take_take, Nat.min_eq_left (by omega)]
    rw [List.take_append, List.length_append, List.length_take, hk, cl]
    rw [List.take_of_length_le (by rw [List.length_append, List.length_take, hk, cl]; omega), List.drop_take]
    congr 2
    omega
/-- One more. -/
theorem GR.push {P : Program} {T : TypeId} {w : World} {g cap : Nat} {A : List α} (h : GR enc k t base w g cap A) (a : α) (I : TypeInfo) (z : Value) (hu : P.underlying T = some (.slice t)) (hi : P.info? t = some I) (hz : I.zero = some z) (z2 : I.size = k) (hzs : z.cells.size = k) (k0 : 0 < k) (hby : (A.length + 1) * I.bytes ≤ 140737488355328) (hl : A.length < 1000000000000) (h1 : ∀ v ∈ enc a, v.oneCell' = true) (hb : base ≤ w.heap.size) :
    ∃ g' cap' w', (Builtin.append_ #[T, T] T #[.slice (some ⟨g, 0, none⟩) A.length cap, .slice (some ⟨w.heap.size, 0, none⟩) 1 1]).run P (w.alloc (.cells (enc a).toArray t)) = .ok (.slice (some ⟨g', 0, none⟩) (A.length + 1) cap') w' ∧ GR enc k t base w' g' cap' (A ++ [a]) ∧ Kp (fun b => b = g) w w' ∧ (g' = g ∨ w.heap.size ≤ g') := by
  have ba := alloc_b w (.cells (enc a).toArray t)
  have v2 := Bx.new w t (enc a).toArray
  have h2 := h.on ba
  have gl := h.lt
  have src : ∀ j u, (enc a)[j]? = some u → (w.alloc (.cells (enc a).toArray t)).cell? ((⟨w.heap.size, 0, none⟩ : Addr).add j) = some u := fun j u hu2 => by
    rw [Go.WideShapes.add_plain, Nat.zero_add]
    exact v2.cell j u (by rw [List.getElem?_toArray]; exact hu2)
  have sz : (w.alloc (.cells (enc a).toArray t)).heap.size = w.heap.size + 1 := World.size_alloc _ _
  have la : (A ++ [a]).length = A.length + 1 := by simp
  have fa : fl enc (A ++ [a]) = fl enc A ++ enc a := by simp [fl]
  obtain ⟨cur, b, s, r⟩ := h2.bx
  have cl : cur.toList.length = cap * k := by rw [Array.length_toList]; exact s
  have m2 := Nat.mul_le_mul_right k h.le
  by_cases room : A.length + 1 ≤ cap
  · have m3 := Nat.mul_le_mul_right k room
    rw [Nat.add_mul, Nat.one_mul] at m3
    have q := run_append_room_cells (P := P) (w.alloc (.cells (enc a).toArray t)) T T t I hu hi g 0 A.length cap ⟨w.heap.size, 0, none⟩ 1 1 (enc a) (by rw [z2, hk, Nat.one_mul]) src h1 room
      (fun j hj => by
        rw [hk] at hj
        have := b.cell (0 + A.length * I.size + j) _ (Array.getElem?_eq_getElem (by rw [s, z2]; omega))
        rw [this]; rfl) (fun j _ => b.free _)
    rw [z2, Nat.zero_add] at q
    refine ⟨g, cap, _, q, ⟨⟨_, bx_setc (t := t) (enc a) (A.length * k) _ cur.toList b (by rw [hk, cl]; omega), ?_, ?_⟩, by rw [la]; exact room, h.cm, h.bb⟩, (Kp.of ba).trans ((Kp.refl (fun b => b = g) _).setcs (.inl rfl) _ _), .inl rfl⟩
    · rw [List.size_toArray, List.length_append, List.length_append, List.length_take, List.length_drop, hk, cl]
      omega
    · rw [la, fa, r, Nat.add_mul, Nat.one_mul]
      have lf := fl_len hk A
      rw [List.take_left' (by rw [List.length_append, lf, hk])]
  · obtain ⟨v', w', q, o, gb⟩ := run_append_arg_grows (P := P) (w.alloc (.cells (enc a).toArray t)) T T t I z k I.bytes hu hi hz z2 rfl hzs k0 ⟨g, 0, none⟩ A.length cap (fl enc A) (fl_len hk A)
      (fun j u hu2 => by
        rw [Go.WideShapes.add_plain, Nat.zero_add]
        refine b.cell j u ?_
        rw [← r, List.getElem?_take] at hu2
        split at hu2
        · rw [← Array.getElem?_toList]; exact hu2
        · simp at hu2) ⟨w.heap.size, 0, none⟩ 1 1 (enc a) (by rw [hk, Nat.one_mul]) src (by omega) (by simp only [maxLen]; omega) hby
    rcases o.2 with ⟨_, c⟩ | ⟨g', cap', cur', rfl, hbg, hgg, hnc, hcm, hcs, htk⟩
    · omega
    · refine ⟨g', cap', w', q, ⟨⟨cur', hgg, hcs, by rw [la, fa]; exact htk⟩, by rw [la]; exact hnc, hcm, by omega⟩, (Kp.of ba).trans ?_, .inr (by omega)⟩
      exact ⟨gb.os, gb.tape, gb.output, gb.size, fun i hi2 _ => gb.block i hi2 (by simp)⟩
end
end Re
end Go.Proofs.YtigmhnlcmhpepaaGreatDoor
