/-
  numeral's upward.
-/
import Derived.Test.YtbdbpjghmejfjaaGreatDoorNRaise
import Derived.Test.YtbdbpjghmejfjaaGreatDoorNTrim
namespace Go.Proofs.YtbdbpjghmejfjaaGreatDoor
open Go.RowKit Go.Deep

/-- Whether the kept digits ds are taken up by the dropped ones. -/
def UpIs (ds ys : List Int) (more u : Bool) : Prop :=
  (u = true → 10 ^ ys.length ≤ 2 * dv ys ∧ (2 * dv ys = 10 ^ ys.length → more = true ∨ dv ds % 2 = 1)) ∧ (u = false → 2 * dv ys ≤ 10 ^ ys.length ∧ (2 * dv ys = 10 ^ ys.length → more = false ∧ dv ds % 2 = 0))

theorem dv_first {y : Int} {rest : List Int} (h : Digs (y :: rest)) : ∃ P : Int, 0 < P ∧ (10 : Int) ^ (y :: rest).length = 10 * P ∧ dv (y :: rest) = (y - 48) * P + dv rest ∧ 0 ≤ dv rest ∧ dv rest < P := by
  have hr : Digs rest := fun d hd => h d (by simp [hd])
  have b := dv_bd hr
  refine ⟨10 ^ rest.length, Int.pow_pos (by omega), by rw [List.length_cons, Int.pow_succ, Int.mul_comm], dv_cons y rest, b.1, b.2⟩

theorem dv_zero_iff : ∀ {ds : List Int}, Digs ds → (dv ds = 0 ↔ ∀ i, i < ds.length → ds.getD i 0 = 48)
  | [], _ => by simp [dv, Dn.tv]
  | d :: ds, h => by
    have hr : Digs ds := fun e he => h e (by simp [he])
    have b := dv_bd hr
    have hd := h d (by simp)
    have hP : (0 : Int) < 10 ^ ds.length := Int.pow_pos (by omega)
    rw [dv_cons]
    constructor
    · intro c
      have h1 : 0 ≤ (d - 48) * 10 ^ ds.length := Int.mul_nonneg (by omega) (Int.le_of_lt hP)
      have h2 : (d - 48) * 10 ^ ds.length = 0 := by omega
      have h3 : d - 48 = 0 := by
        rcases Int.mul_eq_zero.1 h2 with e | e
        · exact e
        · omega
      have h4 : dv ds = 0 := by omega
      intro i hi
      cases i with
      | zero => simp; omega
      | succ i => simpa using (dv_zero_iff hr).1 h4 i (by simpa using hi)
    · intro c
      have h1 : d = 48 := by simpa using c 0 (by simp)
      have h2 : dv ds = 0 := (dv_zero_iff hr).2 (fun i hi => by simpa using c (i + 1) (by simpa using hi))
      rw [h1, h2]
      simp

theorem up_over {ds ys : List Int} {more : Bool} {y : Int} {rest : List Int} (hy : ys = y :: rest) (hd : Digs ys) (h : 53 < y) : UpIs ds ys more true := by
  subst hy
  obtain ⟨P, p1, p2, p3, p4, p5⟩ := dv_first hd
  have : 6 * P ≤ (y - 48) * P := Int.mul_le_mul_of_nonneg_right (by omega) (by omega)
  refine ⟨fun _ => ⟨by omega, fun c => by omega⟩, fun c => by cases c⟩

theorem up_under {ds ys : List Int} {more : Bool} {y : Int} {rest : List Int} (hy : ys = y :: rest) (hd : Digs ys) (h : y < 53) : UpIs ds ys more false := by
  subst hy
  obtain ⟨P, p1, p2, p3, p4, p5⟩ := dv_first hd
  have : (y - 48) * P ≤ 4 * P := Int.mul_le_mul_of_nonneg_right (by omega) (by omega)
  refine ⟨fun c => (by cases c), fun _ => ⟨by omega, fun c => by omega⟩⟩

theorem up_more {ds ys : List Int} {rest : List Int} (hy : ys = 53 :: rest) (hd : Digs ys) : UpIs ds ys true true := by
  subst hy
  obtain ⟨P, p1, p2, p3, p4, p5⟩ := dv_first hd
  refine ⟨fun _ => ⟨by omega, fun c => .inl rfl⟩, fun c => by cases c⟩

theorem up_rest {ds ys : List Int} {more : Bool} {rest : List Int} (hy : ys = 53 :: rest) (hd : Digs ys) (h : dv rest ≠ 0) : UpIs ds ys more true := by
  subst hy
  obtain ⟨P, p1, p2, p3, p4, p5⟩ := dv_first hd
  refine ⟨fun _ => ⟨by omega, fun c => by omega⟩, fun c => by cases c⟩

theorem up_half {ds ys : List Int} {rest : List Int} (hy : ys = 53 :: rest) (hd : Digs ys) (h : dv rest = 0) {u : Bool} (hu : u = decide (dv ds % 2 = 1)) : UpIs ds ys false u := by
  subst hy
  obtain ⟨P, p1, p2, p3, p4, p5⟩ := dv_first hd
  refine ⟨fun c => ⟨by omega, fun _ => .inr ?_⟩, fun c => ⟨by omega, fun _ => ⟨rfl, ?_⟩⟩⟩
  · rw [c] at hu
    exact of_decide_eq_true hu.symm
  · rw [c] at hu
    have := of_decide_eq_false hu.symm
    omega

theorem dv_last {ds : List Int} {n : Nat} (hn : ds.length = n + 1) : dv ds % 2 = ds.getD n 0 % 2 := by
  have e : ds = ds.take n ++ [ds.getD n 0] := by
    have h := List.take_append_drop n ds
    rw [List.drop_eq_getElem_cons (by omega), List.drop_of_length_le (by omega)] at h
    simpa [List.getD, show n < ds.length by omega] using h.symm
  generalize ds.getD n 0 = x at *
  rw [e, dv_append, dv_cons]
  simp [dv, Dn.tv]
  omega

def UpTold (ds ys : List Int) (more : Bool) (e : Ending) : Prop := ∃ u, e = .returned (.bool u) ∧ UpIs ds ys more u

set_option maxRecDepth 100000 in
set_option maxHeartbeats 2000000 in
theorem upward_any (g n cap : Nat) (es ys : List Int) (sd : ByteArray) (more : Bool) (w : World) (ho : OwnF w g es) (hn : n ≤ es.length) (hnb : n ≤ 140737488351232) (hs : Str sd ys) (hy0 : ys ≠ []) (hyb : ys.length ≤ 140737488351232) (hd : Digs ys) (hde : Digs (es.take n)) :
    Calls Tryz.prog 78 #[.slice (some ⟨g, 0, none⟩) n cap, .string sd, .bool more] w fun e w' => UpTold (es.take n) ys more e ∧ Below w.heap.size w w' := by
  obtain ⟨y, rest, hys⟩ := List.exists_cons_of_ne_nil hy0
  obtain ⟨m, HM⟩ : ∃ m, Hid (ys.length = m) := ⟨_, rfl⟩
  have hsz : sd.size = m := by rw [hs.size, HM.out]
  have hm0 : 0 < m := by have := HM.out; rw [hys] at this; simp at this; omega
  have hmi : (0 : Int) < (m : Int) := by omega
  have hmb : (m : Int) ≤ 140737488351232 := by have := HM.out; omega
  have hx : ∀ h : 0 < sd.size, ((sd[0]'h).toNat : Int) = y := fun h => by rw [hs.at 0 h, hys]; rfl
  have hyd := hd y (by rw [hys]; simp)
  have SR : Str (sd.extract 1 m) rest := by
    have := hs.extract 1 m
    rw [hys, List.drop_succ_cons, List.drop_zero, List.take_of_length_le (by have := HM.out; rw [hys] at this; simp at this; omega)] at this
    exact this
  have TR := hid (trim0_any (sd.extract 1 m) rest w SR (by have := HM.out; rw [hys] at this; simp at this; omega))
  have HY := hid hys
  have HD := hid hd
  have HO := hid ho
  have HN := hid hn
  have hnbi : (n : Int) ≤ 140737488351232 := by omega
  obtain ⟨hyd0, hyd1⟩ := hyd
  clear ho hn hs hy0 hyb hys SR hd
  rcases (show 53 < y ∨ y < 53 ∨ y = 53 by omega) with h | h | h
  · have F := hid (up_over (ds := es.take n) (more := more) HY.out HD.out h)
    have hne : (y == 53) = false := by rw [beq_eq_false_iff_ne]; omega
    go_enter Tryz.func78, Tryz.ntmps78
    go_wp2_with fail
    go_ret
    exact ⟨⟨_, rfl, F.out⟩, Below.refl _ _⟩
  · have F := hid (up_under (ds := es.take n) (more := more) HY.out HD.out h)
    have hne : (y == 53) = false := by rw [beq_eq_false_iff_ne]; omega
    have hnl : ¬ 53 < y := by omega
    go_enter Tryz.func78, Tryz.ntmps78
    go_wp2_with fail
    go_ret
    exact ⟨⟨_, rfl, F.out⟩, Below.refl _ _⟩
  · subst h
    cases more with
    | true =>
      have F := hid (up_more (ds := es.take n) HY.out HD.out)
      go_enter Tryz.func78, Tryz.ntmps78
      go_wp2_with fail
      go_ret
      exact ⟨⟨_, rfl, F.out⟩, Below.refl _ _⟩
    | false =>
      go_enter Tryz.func78, Tryz.ntmps78
      go_wp2_with fail
      refine TR.out.mono ?_
      rintro e w1 ⟨⟨s', rfl, hz⟩, d1⟩
      have D1 := hid d1
      have hr : Digs rest := fun d hd => HD.out d (by rw [HY.out]; simp [hd])
      have zi := dv_zero_iff hr
      by_cases hzr : dv rest = 0
      · have e1 : s'.toList = [] := hz.2 (zi.1 hzr)
        have UH := hid (fun (u : Bool) (hu : u = decide (dv (es.take n) % 2 = 1)) => up_half (ds := es.take n) HY.out HD.out hzr hu)
        have O1 := hid (HO.out.below d1 HO.out.lt)
        clear hz zi hr d1 TR hzr
        cases n with
        | zero =>
          have F := hid (UH.out false (by simp [dv, Dn.tv]))
          go_wp2_with fail
          go_ret
          exact ⟨⟨_, rfl, F.out⟩, D1.out⟩
        | succ k =>
          obtain ⟨N, HNk⟩ : ∃ N, Hid (k + 1 = N) := ⟨_, rfl⟩
          have hNk : (N : Int) - 1 = (k : Int) := by have := HNk.out; omega
          have hkN : (k : Int) < (N : Int) := by have := HNk.out; omega
          have hN0 : (0 : Int) < (N : Int) := by have := HNk.out; omega
          have hNb : (N : Int) ≤ 140737488351232 := by have := HNk.out; omega
          obtain ⟨x, X⟩ : ∃ x, Hid (es.getD k 0 = x) := ⟨_, rfl⟩
          have hc : w1.cell? ⟨g, k, none⟩ = some (.int .u8 x) := by rw [O1.out.cell k (by have := HN.out; omega), X.out]
          have LP : Hid (dv (es.take (k + 1)) % 2 = x % 2) := by
            show _ = _
            rw [dv_last (n := k) (by simp; have := HN.out; omega), ← X.out]
            simp [List.getD]
          rw [HNk.out] at UH LP ⊢
          have x0 : 0 ≤ x ∧ x < 256 := by
            have hlt : k < (es.take (k + 1)).length := by simp; have := HN.out; omega
            have := hde _ (List.getElem_mem hlt)
            have e : (es.take (k + 1))[k] = x := by rw [← X.out]; simp [List.getD, List.getElem?_eq_getElem (show k < es.length by have := HN.out; omega)]
            rw [e] at this
            omega
          obtain ⟨b, hb⟩ : ∃ b, x % 2 = b := ⟨_, rfl⟩
          have hb2 : x.tmod 2 = b := by rw [Int.tmod_eq_emod_of_nonneg x0.1]; exact hb
          have q1 : IntKind.i64.wrap ((N : Int) - 1) = (k : Int) := by rw [IntKind.wrap_i64]; omega
          have q2 : IntKind.i64.wrap (k : Int) = (k : Int) := by rw [IntKind.wrap_i64]; omega
          have b01 : b = 1 ∨ b = 0 := by omega
          clear hNb hnb hnbi hde
          rcases b01 with c | c
          · subst c
            have F := hid (UH.out true (by rw [LP.out, hb]; rfl))
            clear UH
            go_wp2_with fail
            go_ret
            exact ⟨⟨_, rfl, by have h := F.out; rw [← HNk.out] at h; exact h⟩, D1.out⟩
          · subst c
            have F := hid (UH.out false (by rw [LP.out, hb]; rfl))
            clear UH
            go_wp2_with fail
            go_ret
            exact ⟨⟨_, rfl, by have h := F.out; rw [← HNk.out] at h; exact h⟩, D1.out⟩
      · have e1 : s'.toList ≠ [] := fun c => hzr (zi.2 (hz.1 c))
        have e2 : (s'.toList == []) = false := by rw [beq_eq_false_iff_ne]; exact e1
        have e3 : s'.toList.isEmpty = false := by rw [List.isEmpty_eq_false_iff]; exact e1
        have F := hid (up_rest (ds := es.take n) (more := false) HY.out HD.out hzr)
        clear hz zi hr d1 TR hzr
        go_wp2_with fail
        go_ret
        exact ⟨⟨_, rfl, F.out⟩, D1.out⟩
end Go.Proofs.YtbdbpjghmejfjaaGreatDoor
