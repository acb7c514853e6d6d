/-
  record: pieces.
-/
import Derived.Test.YtiggmgagcogakaaDoorRcA
import Derived.Test.YtiggmgagcogakaaDoorChB
namespace Go.Proofs.YtiggmgagcogakaaDoor
open Go Go.RowKit Go.Deep Go.Shelf

attribute [local go_sem] Oper.semAt_some

/-- The places of the parts from p on. -/
inductive Rc.PP (l sep : Ch.L8) : Nat → List (Nat × Nat) → Prop
  | last (p : Nat) : p ≤ l.length → Lib.index (l.drop p) sep = -1 → Rc.PP l sep p [(p, l.length)]
  | more (p i : Nat) (r : List (Nat × Nat)) : p + i + sep.length ≤ l.length → Lib.index (l.drop p) sep = i → Rc.PP l sep (p + i + sep.length) r → Rc.PP l sep p ((p, p + i) :: r)
theorem Rc.pp_ex (l sep : Ch.L8) (h : sep ≠ []) : ∀ (n p : Nat), l.length - p ≤ n → p ≤ l.length → ∃ ps, Rc.PP l sep p ps := by
  intro n
  induction n with
  | zero =>
    intro p h1 h2
    refine ⟨_, .last p h2 ?_⟩
    rw [List.drop_eq_nil_of_le (by omega)]
    rcases Lib.index_spec [] sep with ⟨h3, _⟩ | ⟨i, _, _, ho, _⟩
    · exact h3
    · rcases Lib.occAt_room ho with h4 | h4
      · simp at h4
        exact absurd h4.2 h
      · exact absurd h4 h
  | succ n ih =>
    intro p h1 h2
    rcases Lib.index_spec (l.drop p) sep with ⟨h3, _⟩ | ⟨i, hi, _, ho, _⟩
    · exact ⟨_, .last p h2 h3⟩
    · have hr : i + sep.length ≤ (l.drop p).length := by
        rcases Lib.occAt_room ho with h4 | h4
        · exact h4
        · exact absurd h4 h
      rw [List.length_drop] at hr
      have : 0 < sep.length := List.length_pos_iff.2 h
      obtain ⟨r, hr2⟩ := ih (p + i + sep.length) (by omega) (by omega)
      exact ⟨_, .more p i r (by omega) hi hr2⟩
theorem Rc.PP.room {l sep : Ch.L8} {p : Nat} {ps : List (Nat × Nat)} (h : Rc.PP l sep p ps) : p ≤ l.length := by
  cases h with
  | last p h1 h2 => exact h1
  | more p i r h1 h2 h3 => omega
theorem Rc.index_nil {sep : Ch.L8} (h : sep ≠ []) : Lib.index [] sep = -1 := by
  rcases Lib.index_spec [] sep with ⟨h3, _⟩ | ⟨i, _, _, ho, _⟩
  · exact h3
  · rcases Lib.occAt_room ho with h4 | h4
    · simp at h4
      exact absurd h4.2 h
    · exact absurd h4 h
namespace Ch
theorem emp_iff0 (s : ByteArray) : s.data.toList = [] ↔ s.size = 0 := by
  rw [← size_len]
  exact List.length_eq_zero_iff.symm
theorem toList_ne0 {s : ByteArray} (h : s.size ≠ 0) : s.toList.isEmpty = false ∧ (s.toList == []) = false ∧ ¬ s.toList = [] := by
  have e : s.toList ≠ [] := by
    rw [ByteArray.toList_eq]
    intro c
    exact h ((emp_iff0 s).1 c)
  refine ⟨?_, ?_, e⟩
  · cases hx : s.toList with
    | nil => exact absurd hx e
    | cons _ _ => rfl
  · cases hx : s.toList with
    | nil => exact absurd hx e
    | cons _ _ => rfl
theorem size_zero0 {s : ByteArray} (h : s.size = 0) : s = ⟨#[]⟩ := by
  rw [← tx_self s, (emp_iff0 s).2 h]
  rfl
end Ch
/-- Place k. -/
def Rc.fr (ps : List (Nat × Nat)) (k : Nat) : Nat := (ps.getD k (0, 0)).1
def Rc.up (ps : List (Nat × Nat)) (k : Nat) : Nat := (ps.getD k (0, 0)).2
theorem Rc.at_cons {ps : List (Nat × Nat)} {k a b : Nat} {r : List (Nat × Nat)} (h : ps.drop k = (a, b) :: r) : k < ps.length ∧ Rc.fr ps k = a ∧ Rc.up ps k = b ∧ ps.drop (k + 1) = r := by
  have h1 : k < ps.length := by
    rcases Nat.lt_or_ge k ps.length with c | c
    · exact c
    · rw [List.drop_eq_nil_of_le c] at h; cases h
  have h2 := List.drop_eq_getElem_cons h1
  rw [h] at h2
  simp only [List.cons.injEq] at h2
  refine ⟨h1, ?_, ?_, h2.2.symm⟩
  · simp [Rc.fr, List.getD, List.getElem?_eq_getElem h1, ← h2.1]
  · simp [Rc.up, List.getD, List.getElem?_eq_getElem h1, ← h2.1]

set_option maxRecDepth 100000 in
set_option maxHeartbeats 4000000 in
theorem pieces1_feeds (s sep : ByteArray) (b1 b2 : Nat) (ps : List (Nat × Nat)) (Z : Nat → Prop) (w : World) (z1 : Z b1) (z2 : Z b2) (z3 : Z 0) (c1 : w.cell? ⟨b1, 0, none⟩ = some (.string s)) (c2 : w.cell? ⟨b2, 0, none⟩ = some (.string sep)) (hm : ML w)
    (hs : s.size < 4294967281) (h1 : 1 ≤ sep.size) (h2 : sep.size ≤ 140737488355328) (h0 : s.size = 0 → ps = []) (hp : s.size ≠ 0 → Rc.PP s.data.toList sep.data.toList 0 ps) :
    Fd 33 #[.pointer (some ⟨b1, 0, none⟩), .pointer (some ⟨b2, 0, none⟩)] (Rc.fr ps) (Rc.up ps) ps.length Z w := fun l J Jx W hW hJ hY hJ0 => by
  have d1 := hW.cell z1 c1
  have d2 := hW.cell z2 c2
  have dm : ML W := by obtain ⟨m, hm⟩ := hm; exact ⟨m, hW.cell z3 hm⟩
  have hsi : (s.size : Int) < 4294967281 := by omega
  have hpi : (sep.size : Int) ≤ 140737488355328 := by omega
  have sl := Ch.size_len s
  have IX : ∀ (p : Nat) (wx : World), p ≤ s.size → ML wx → Calls Tryd.prog 34 #[.string (s.extract p s.size), .string sep] wx fun e w' => e = .returned (.int .i64 (Lib.index (s.data.toList.drop p) sep.data.toList + 1)) ∧ w' = wx := fun p wx hp hm => by
    have q := cindex_any (s.extract p s.size) sep wx hm (by rw [ByteArray.size_extract]; omega)
    rw [Lib.extract_to_end] at q
    exact q
  have IX0 := cindex_any s sep W dm hs
  refine callsIn_of_wp Tryd.func33 rfl trivial ?_ rfl
  simp only [Tryd.ntmps33, List.size_toArray, List.length_cons, List.length_nil, Nat.reduceAdd, Nat.reduceSub, Array.replicate_succ, Array.replicate_zero, List.push_toArray, List.append_toArray, List.nil_append, List.cons_append]
  gi_wp2_with (refine ⟨trivial, rfl, ?_⟩; gi_at_call 34; refine (callsIn_wide.2 IX0).mono ?_; rintro e w1 ⟨rfl, hw⟩; have hw := hw.symm; subst hw)
  clear IX0
  gi_loopw [4, 5] (fun a b wr => ∃ k p : Nat, a = .int .i64 (p : Int) ∧ b = .int .i64 (Lib.index (s.data.toList.drop p) sep.data.toList + 1) ∧ p ≤ s.size ∧ (s.size ≠ 0 → Rc.PP s.data.toList sep.data.toList p (ps.drop k)) ∧ (s.size = 0 → k = 0 ∧ p = 0) ∧ J k wr ∧ Kz Z W wr)
    (fun a _ _ => s.size + 1 - (intOf a).toNat)
  case atStart => exact ⟨0, 0, rfl, rfl, Nat.zero_le _, hp, fun _ => ⟨rfl, rfl⟩, hJ0, Kz.refl _ _⟩
  case round =>
    obtain ⟨k, p, rfl, rfl, hpl, hP, hE, hJs, hK⟩ := hrel
    have e1 := hK.cell z1 d1
    have e2 := hK.cell z2 d2
    have dmx : ML wr := by obtain ⟨m, hm⟩ := dm; exact ⟨m, hK.cell z3 hm⟩
    by_cases s0 : s.size = 0
    · obtain ⟨rfl, rfl⟩ := hE s0
      obtain rfl := Ch.size_zero0 s0
      have i0 : Lib.index (List.drop 0 (⟨#[]⟩ : ByteArray).data.toList) sep.data.toList + 1 = 0 := by
        show Lib.index ([] : Ch.L8) sep.data.toList + 1 = 0
        rw [Rc.index_nil (Ch.sep_ne h1)]; rfl
      rw [i0]
      have n0 : ps = [] := h0 rfl
      subst n0
      gi_wp2
      go_end0
      exact ⟨⟨_, rfl⟩, .inl hJs⟩
    · obtain ⟨q1, q2, q3⟩ := Ch.toList_ne0 s0
      have hP1 := hP s0
      generalize hD : ps.drop k = D at hP1
      have hpi2 : (p : Int) ≤ (s.size : Int) := by omega
      cases hP1 with
      | last p _ hi =>
        obtain ⟨kl, f1, u1, dr⟩ := Rc.at_cons hD
        have kN : ps.length = k + 1 := by
          have := congrArg List.length dr
          simp at this
          omega
        rw [hi]
        obtain ⟨fn, tmps, assign, body, hy, hR⟩ := hY k wr kl hJs 0
        rw [f1, u1, sl] at hy
        gi_wp2
        refine ⟨rfl, hR.mono ?_⟩
        rintro e W3 (⟨rfl, hJ3, hk3⟩ | ⟨rfl, hJx3⟩)
        · gi_wp2
          go_end0
          exact ⟨⟨_, rfl⟩, .inl (by rw [kN]; exact hJ3)⟩
        · gi_wp2
          go_end0
          exact ⟨⟨_, rfl⟩, .inr ⟨k + 1, by omega, hJx3⟩⟩
      | more p i r hr hi hP2 =>
        obtain ⟨kl, f1, u1, dr⟩ := Rc.at_cons hD
        have sp := Ch.size_len sep
        rw [sp, sl] at hr
        rw [sp] at hP2
        have ib : (p : Int) + (i : Int) + (sep.size : Int) ≤ (s.size : Int) := by omega
        have i1 : (1 : Int) ≤ (sep.size : Int) := by omega
        have w1 : (p : Int) + ((i : Int) + 1) - 1 = (p : Int) + (i : Int) := by omega
        rw [hi]
        obtain ⟨fn, tmps, assign, body, hy, hR⟩ := hY k wr kl hJs 0
        rw [f1, u1, Int.natCast_add] at hy
        gi_wp2
        refine ⟨rfl, hR.mono ?_⟩
        rintro e W3 (⟨rfl, hJ3, hk3⟩ | ⟨rfl, hJx3⟩)
        · have g1 := hk3.cell z1 e1
          have g2 := hk3.cell z2 e2
          have gm : ML W3 := by obtain ⟨m, hm⟩ := dmx; exact ⟨m, hk3.cell z3 hm⟩
          obtain ⟨q, hq⟩ : ∃ q : Nat, p + i + sep.size = q := ⟨_, rfl⟩
          have hqi : (p : Int) + (i : Int) + (sep.size : Int) = (q : Int) := by omega
          have qb : (q : Int) ≤ (s.size : Int) := by omega
          have qp : Hid (p < q) := by rw [Hid]; omega
          rw [hq] at hP2
          have gmD : ML W3.drew := by obtain ⟨m, hm⟩ := gm; exact ⟨m, hm⟩
          have B3 : Below W3.heap.size W3 W3.drew := ⟨rfl, rfl, rfl, Nat.le_refl _, fun _ _ => rfl⟩
          have mixed : Tryd.prog.follows Departure.mixedOrders = true := by kernel_rfl
          have FJ := hid (hJ _ _ _ hJ3 B3)
          have FK : Hid (Kz Z W W3.drew) := (hK.trans hk3).trans (Kz.refl _ _)
          have FP := hid hP2
          have FD := hid dr
          have FI := hid (IX q W3.drew (by omega) gmD)
          clear hJ hY IX hP hE hJs hK hk3 hJ3 e1 e2 d1 d2 dm dmx hW hm c1 c2 hp h0 hJ0 hy hi hP2 dr hD gm gmD B3 sl sp f1 u1 hR kl hr
          gi_wp2
          clear hqi hq ib w1 i1 hpi2
          gi_region_with_o (refine ⟨trivial, rfl, ?_⟩; gi_at_call 34; refine (callsIn_wide.2 FI.out).mono ?_; rintro e w1 ⟨rfl, hw⟩; have hw := hw.symm; subst hw)
          all_goals
            try simp only [Act.put, List.getElem_toArray, List.getElem_cons_zero, List.getElem_cons_succ, List.setIfInBounds_toArray, List.set_cons_zero, List.set_cons_succ]
            gi_wp2
            go_roundw
            case rel => exact ⟨k + 1, q, rfl, rfl, by omega, fun _ => by rw [FD.out]; exact FP.out, fun z => absurd z s0, FJ.out, FK.out⟩
            case measure => have := qp.out; simp [intOf]; omega
        · gi_wp2
          refine bodyPost_ret (results_none rfl _ _ _) rfl ?_
          exact ⟨⟨_, rfl⟩, .inr ⟨k + 1, by omega, hJx3⟩⟩
end Go.Proofs.YtiggmgagcogakaaDoor
