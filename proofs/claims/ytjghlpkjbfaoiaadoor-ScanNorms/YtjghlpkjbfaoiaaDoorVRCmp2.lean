/-
  abacusref08: Cmp, Text.
-/
import Derived.Test.YtjghlpkjbfaoiaaDoorVRCmp
namespace Go.Proofs.YtjghlpkjbfaoiaaDoor
open Go Go.RowKit Go.Deep

/-- Two new boxes at given places. -/
def Pair2 (w wx : World) (g h : Nat) (v0 v1 v2 u0 u1 u2 : Value) : Prop := Below w.heap.size w wx ∧ w.heap.size ≤ g ∧ w.heap.size ≤ h ∧ g ≠ h ∧ Row3 wx g v0 v1 v2 ∧ Row3 wx h u0 u1 u2
theorem Pair2.on {w wx w' : World} {g h : Nat} {v0 v1 v2 u0 u1 u2 : Value} (k : Pair2 w wx g h v0 v1 v2 u0 u1 u2) (b : Below wx.heap.size wx w') : Pair2 w w' g h v0 v1 v2 u0 u1 u2 :=
  ⟨below_on k.1 b, k.2.1, k.2.2.1, k.2.2.2.1, k.2.2.2.2.1.below b k.2.2.2.2.1.lt, k.2.2.2.2.2.below b k.2.2.2.2.2.lt⟩
theorem row3_set0 {w : World} {b : Nat} {v0 v1 v2 : Value} (h : Row3 w b v0 v1 v2) (x : Value) : Row3 (w.setCell ⟨b, 0, none⟩ x) b x v1 v2 := set1 h (by simp [Array.setIfInBounds])
theorem Pair2.setA {w wx : World} {g h : Nat} {v0 v1 v2 u0 u1 u2 : Value} (k : Pair2 w wx g h v0 v1 v2 u0 u1 u2) (x : Value) : Pair2 w (wx.setCell ⟨g, 0, none⟩ x) g h x v1 v2 u0 u1 u2 :=
  ⟨k.1.setCell (p := ⟨g, 0, none⟩) k.2.1 x, k.2.1, k.2.2.1, k.2.2.2.1, row3_set0 k.2.2.2.2.1 x, k.2.2.2.2.2.far k.2.2.2.1⟩
theorem Pair2.setB {w wx : World} {g h : Nat} {v0 v1 v2 u0 u1 u2 : Value} (k : Pair2 w wx g h v0 v1 v2 u0 u1 u2) (x : Value) : Pair2 w (wx.setCell ⟨h, 0, none⟩ x) g h v0 v1 v2 x u1 u2 :=
  ⟨k.1.setCell (p := ⟨h, 0, none⟩) k.2.2.1 x, k.2.1, k.2.2.1, k.2.2.2.1, k.2.2.2.2.1.far (fun c => k.2.2.2.1 c.symm), row3_set0 k.2.2.2.2.2 x⟩
theorem Pair2.flat {w wx : World} {g h : Nat} {v0 v1 v2 u0 u1 u2 : Value} (k : Pair2 w wx g h v0 v1 v2 u0 u1 u2) :
    ((wx.cell? ⟨g, 0, none⟩ = some v0 ∧ wx.cell? ⟨g, 1, none⟩ = some v1 ∧ wx.cell? ⟨g, 2, none⟩ = some v2) ∧ (wx.cell? ⟨h, 0, none⟩ = some u0 ∧ wx.cell? ⟨h, 1, none⟩ = some u1 ∧ wx.cell? ⟨h, 2, none⟩ = some u2)) ∧ (wx.frozen? ⟨g, 0, none⟩ = false ∧ wx.frozen? ⟨h, 0, none⟩ = false) :=
  ⟨⟨k.2.2.2.2.1.cells.1, k.2.2.2.2.2.cells.1⟩, k.2.2.2.2.1.cells.2.1, k.2.2.2.2.2.cells.2.1⟩

theorem nd_nrm {neg : Bool} {xs : List Int} {e : Int} (h : Sc.IsDec xs e) (hn : xs.length ≤ 281474976710655) : Nd (Sc.nrm neg xs e) := by
  have hi := Sc.nrm_isdec (neg := neg) h
  refine ⟨hi.2.1, hi.2.2.1, by have := Sc.nrm_len neg xs e; omega, fun x hx => Sc.dg_iff.1 (hi.2.2.2.1 x hx), fun c => (Sc.nrm_ends c).2.1⟩
theorem nmd_nrm1 {neg : Bool} {xs : List Int} {e : Int} (h : Sc.IsDec xs e) : nmd neg xs e = Sc.nrm neg xs e := by unfold nmd; rw [if_pos h]
/-- The document's order by cases of the signs. -/
theorem cmpD_ref {a b : Sc.D} (ha : Sc.Nrm a) (hb : Sc.Nrm b) {na nb : Bool} (h1 : na = if a.ds = [48] then false else a.neg) (h2 : nb = if b.ds = [48] then false else b.neg) :
    Sc.cmpD a b = if na = true ∧ nb = false then -1 else if na = false ∧ nb = true then 1 else if na = true then Sc.sz b a else Sc.sz a b := by
  have hc := Sc.cmpD_c ha hb
  have an := Sc.mc_anti a b
  have sa : Sc.sgn a = if a.ds = [48] then 0 else if a.neg = true then -1 else 1 := rfl
  have sb : Sc.sgn b = if b.ds = [48] then 0 else if b.neg = true then -1 else 1 := rfl
  unfold Sc.sz
  by_cases ca : a.ds = [48]
  · rw [if_pos ca] at h1 sa
    subst h1
    by_cases cb : b.ds = [48]
    · rw [if_pos cb] at h2 sb
      subst h2
      simp [ca, cb]; omega
    · rw [if_neg cb] at h2 sb
      subst h2
      cases hn : b.neg with
      | true => rw [hn] at sb; simp; simp at sb; omega
      | false => rw [hn] at sb; simp [ca, Ne.symm cb]; simp at sb; omega
  · rw [if_neg ca] at h1 sa
    subst h1
    by_cases cb : b.ds = [48]
    · rw [if_pos cb] at h2 sb
      subst h2
      cases hn : a.neg with
      | true => rw [hn] at sa; simp; simp at sa; omega
      | false => rw [hn] at sa; simp [ca, cb]; simp at sa; omega
    · rw [if_neg cb] at h2 sb
      subst h2
      cases hn : a.neg <;> cases hm : b.neg <;> (rw [hn] at sa; rw [hm] at sb; simp [ca, cb]; simp at sa sb; omega)

set_option maxRecDepth 100000 in
set_option maxHeartbeats 4000000 in
theorem rcmp_any (na nb : Bool) (s t : ByteArray) (xs ys : List Int) (ea eb : Int) (w : World) (hs : Str s xs) (ht : Str t ys) (hn : xs.length ≤ 281474976710655) (hm : ys.length ≤ 281474976710655) :
    Calls Tryd.prog 30 #[decV na s ea, decV nb t eb] w fun r w' => r = .returned (.tuple #[.int .i64 (cmpE na xs ea nb ys eb).1, .int .i64 (cmpE na xs ea nb ys eb).2]) ∧ Below w.heap.size w w' := by
  have TA := hid (fun wx => rnorm_any na s xs ea wx hs hn)
  have TB := hid (fun wx => rnorm_any nb t ys eb wx ht hm)
  have Z := hid (Two3.new w (.bool na) (.string s) (.int .i64 ea) (.bool nb) (.string t) (.int .i64 eb))
  unfold decV at TA TB ⊢
  by_cases hd : Sc.IsDec xs ea ∧ Sc.IsDec ys eb
  · obtain ⟨hda, hdb⟩ := hd
    have CE : Hid (cmpE na xs ea nb ys eb = (Sc.cmpD (Sc.nrm na xs ea) (Sc.nrm nb ys eb), 0)) := by show _ = _; unfold cmpE; rw [if_pos ⟨hda, hdb⟩]
    have eA : errOf xs ea = 0 := by unfold errOf; rw [if_pos hda]
    have eB : errOf ys eb = 0 := by unfold errOf; rw [if_pos hdb]
    have nA := nmd_nrm1 (neg := na) hda
    have nB := nmd_nrm1 (neg := nb) hdb
    have ndA := nd_nrm (neg := na) hda hn
    have ndB := nd_nrm (neg := nb) hdb hm
    have CR := hid (fun (p q : Bool) h1 h2 => cmpD_ref (a := Sc.nrm na xs ea) (b := Sc.nrm nb ys eb) (na := p) (nb := q) (Sc.nrm_is _ _ _) (Sc.nrm_is _ _ _) h1 h2)
    clear hs ht hn hm
    go_enter Tryd.func30, Tryd.ntmps30
    go_wp2_with fail
    refine (TA.out _).mono ?_
    rintro r w1 ⟨v, rfl, ⟨s1, hv, hs1⟩, hB⟩
    rw [nA] at hv hs1
    rw [eA]
    unfold decV at hv
    subst hv
    have S1 := hid ((Z.out.on hB).on (alloc_b w1 (.cells #[.bool (Sc.nrm na xs ea).neg, .string s1, .int .i64 (Sc.nrm na xs ea).e] 29)))
    have A1 : Hid (Row3 (w1.alloc (.cells #[.bool (Sc.nrm na xs ea).neg, .string s1, .int .i64 (Sc.nrm na xs ea).e] 29)) w1.heap.size (.bool (Sc.nrm na xs ea).neg) (.string s1) (.int .i64 (Sc.nrm na xs ea).e)) := Row3.new _ _ _ _
    have G1 : Hid (w.heap.size ≤ w1.heap.size) := (Z.out.on hB).1.size
    clear hB Z TA nA eA hda
    obtain ⟨⟨c3, c4, c5⟩, -⟩ := S1.out.2.2.cells
    go_wp2_with fail
    generalize w1.alloc (.cells #[.bool (Sc.nrm na xs ea).neg, .string s1, .int .i64 (Sc.nrm na xs ea).e] 29) = w2 at *
    generalize w1.heap.size = g at *
    refine (TB.out _).mono ?_
    rintro r w3 ⟨v, rfl, ⟨t1, hv, ht1⟩, hB⟩
    rw [nB] at hv ht1
    rw [eB]
    unfold decV at hv
    subst hv
    have P : Hid (Pair2 w (w3.alloc (.cells #[.bool (Sc.nrm nb ys eb).neg, .string t1, .int .i64 (Sc.nrm nb ys eb).e] 29)) g w3.heap.size (.bool (Sc.nrm na xs ea).neg) (.string s1) (.int .i64 (Sc.nrm na xs ea).e) (.bool (Sc.nrm nb ys eb).neg) (.string t1) (.int .i64 (Sc.nrm nb ys eb).e)) := by
      have l1 := (A1.out.below hB A1.out.lt).lt
      exact ⟨(S1.out.on hB).on (alloc_b _ _) |>.1, G1.out, (S1.out.on hB).1.size, by omega, (A1.out.below hB A1.out.lt).below (alloc_b _ _) l1, Row3.new _ _ _ _⟩
    have SZ : Hid (∀ wx (p q : Bool), Calls Tryd.prog 48 #[.agg #[.bool p, .string s1, .int .i64 (Sc.nrm na xs ea).e], .agg #[.bool q, .string t1, .int .i64 (Sc.nrm nb ys eb).e]] wx fun r w' => r = .returned (.int .i64 (Sc.sz (Sc.nrm na xs ea) (Sc.nrm nb ys eb))) ∧ Below wx.heap.size wx w') := fun wx p q => size_any ⟨p, (Sc.nrm na xs ea).ds, (Sc.nrm na xs ea).e⟩ ⟨q, (Sc.nrm nb ys eb).ds, (Sc.nrm nb ys eb).e⟩ s1 t1 wx hs1 ht1 ⟨ndA.e0, ndA.e1, ndA.len, ndA.dig, ndA.last⟩ ⟨ndB.e0, ndB.e1, ndB.len, ndB.dig, ndB.last⟩
    have SY : Hid (∀ wx (p q : Bool), Calls Tryd.prog 48 #[.agg #[.bool q, .string t1, .int .i64 (Sc.nrm nb ys eb).e], .agg #[.bool p, .string s1, .int .i64 (Sc.nrm na xs ea).e]] wx fun r w' => r = .returned (.int .i64 (Sc.sz (Sc.nrm nb ys eb) (Sc.nrm na xs ea))) ∧ Below wx.heap.size wx w') := fun wx p q => size_any ⟨q, (Sc.nrm nb ys eb).ds, (Sc.nrm nb ys eb).e⟩ ⟨p, (Sc.nrm na xs ea).ds, (Sc.nrm na xs ea).e⟩ t1 s1 wx ht1 hs1 ⟨ndB.e0, ndB.e1, ndB.len, ndB.dig, ndB.last⟩ ⟨ndA.e0, ndA.e1, ndA.len, ndA.dig, ndA.last⟩
    have sx : s1.toList = [48] ↔ (Sc.nrm na xs ea).ds = [48] := by
      have := hs1.eq (t := ⟨#[48]⟩) (ys := [48]) rfl
      rw [str48] at this
      by_cases c : (Sc.nrm na xs ea).ds = [48]
      · rw [decide_eq_true c] at this; simpa [c] using this
      · rw [decide_eq_false c] at this; simpa [c] using this
    have sy : t1.toList = [48] ↔ (Sc.nrm nb ys eb).ds = [48] := by
      have := ht1.eq (t := ⟨#[48]⟩) (ys := [48]) rfl
      rw [str48] at this
      by_cases c : (Sc.nrm nb ys eb).ds = [48]
      · rw [decide_eq_true c] at this; simpa [c] using this
      · rw [decide_eq_false c] at this; simpa [c] using this
    have FF : Hid (∀ (x : Int) w', x = Sc.cmpD (Sc.nrm na xs ea) (Sc.nrm nb ys eb) → Below w.heap.size w w' → Ending.returned (.tuple #[.int .i64 x, .int .i64 0]) = .returned (.tuple #[.int .i64 (cmpE na xs ea nb ys eb).1, .int .i64 (cmpE na xs ea nb ys eb).2]) ∧ Below w.heap.size w w') := fun x w' hx b => ⟨by rw [CE.out, hx], b⟩
    have H1 := hid hs1
    have H2 := hid ht1
    clear hB S1 A1 TB nB eB hdb c3 c4 c5 CE hs1 ht1 ndA ndB G1
    generalize Sc.nrm na xs ea = A at *
    generalize Sc.nrm nb ys eb = B at *
    go_upto_region 5 with fail
    generalize w3.alloc (.cells #[.bool B.neg, .string t1, .int .i64 B.e] 29) = w4 at *
    generalize w3.heap.size = h at *
    obtain ⟨⟨⟨c0, c1, c2⟩, c3, c4, c5⟩, f0, f1⟩ := P.out.flat
    have hgh : g ≠ h := P.out.2.2.2.1
    have hhg : h ≠ g := fun c => hgh c.symm
    by_cases ka : A.ds = [48]
    · have q0 : s1 = ⟨#[48]⟩ := H1.out.inj (by rw [ka]; rfl)
      subst q0
      by_cases kb : B.ds = [48]
      · have q1 : t1 = ⟨#[48]⟩ := H2.out.inj (by rw [kb]; rfl)
        subst q1
        have CC := hid (CR.out false false (by rw [if_pos ka]) (by rw [if_pos kb]))
        have SS := hid ((P.out.setA (.bool false)).setB (.bool false))
        clear CR P ka kb
        go_wp2_with fail
        refine (SZ.out _ _ _).mono ?_
        rintro r w5 ⟨rfl, hBB⟩
        have DD := hid (below_on SS.out.1 hBB)
        clear hBB
        go_wp2_with fail
        go_ret2
        exact FF.out _ _ (by rw [CC.out]; simp) DD.out
      · have q1 : t1.toList ≠ [48] := fun c => kb (sy.1 c)
        have q2 : (t1.toList == [48]) = false := by rw [beq_eq_false_iff_ne]; exact q1
        obtain ⟨n, hB⟩ : ∃ n, B.neg = n := ⟨_, rfl⟩
        cases n with
        | true =>
          have CC := hid (CR.out false true (by rw [if_pos ka]) (by rw [if_neg kb, hB]))
          have SS := hid (P.out.setA (.bool false))
          clear CR P ka kb
          go_wp2_with fail
          go_ret2
          exact FF.out _ _ (by rw [CC.out]; simp) SS.out.1
        | false =>
          have CC := hid (CR.out false false (by rw [if_pos ka]) (by rw [if_neg kb, hB]))
          have SS := hid (P.out.setA (.bool false))
          clear CR P ka kb
          go_wp2_with fail
          refine (SZ.out _ _ _).mono ?_
          rintro r w5 ⟨rfl, hBB⟩
          have DD := hid (below_on SS.out.1 hBB)
          clear hBB
          go_wp2_with fail
          go_ret2
          exact FF.out _ _ (by rw [CC.out]; simp) DD.out
    · have p1 : s1.toList ≠ [48] := fun c => ka (sx.1 c)
      have p2 : (s1.toList == [48]) = false := by rw [beq_eq_false_iff_ne]; exact p1
      obtain ⟨m, hA⟩ : ∃ m, A.neg = m := ⟨_, rfl⟩
      by_cases kb : B.ds = [48]
      · have q1 : t1 = ⟨#[48]⟩ := H2.out.inj (by rw [kb]; rfl)
        subst q1
        cases m with
        | true =>
          have CC := hid (CR.out true false (by rw [if_neg ka, hA]) (by rw [if_pos kb]))
          have SS := hid (P.out.setB (.bool false))
          clear CR P ka kb
          go_wp2_with fail
          go_ret2
          exact FF.out _ _ (by rw [CC.out]; simp) SS.out.1
        | false =>
          have CC := hid (CR.out false false (by rw [if_neg ka, hA]) (by rw [if_pos kb]))
          have SS := hid (P.out.setB (.bool false))
          clear CR P ka kb
          go_wp2_with fail
          refine (SZ.out _ _ _).mono ?_
          rintro r w5 ⟨rfl, hBB⟩
          have DD := hid (below_on SS.out.1 hBB)
          clear hBB
          go_wp2_with fail
          go_ret2
          exact FF.out _ _ (by rw [CC.out]; simp) DD.out
      · have q1 : t1.toList ≠ [48] := fun c => kb (sy.1 c)
        have q2 : (t1.toList == [48]) = false := by rw [beq_eq_false_iff_ne]; exact q1
        obtain ⟨n, hB⟩ : ∃ n, B.neg = n := ⟨_, rfl⟩
        cases m with
        | true =>
          cases n with
          | true =>
            have CC := hid (CR.out true true (by rw [if_neg ka, hA]) (by rw [if_neg kb, hB]))
            have SS := hid P.out
            clear CR P ka kb
            go_wp2_with fail
            refine (SY.out _ _ _).mono ?_
            rintro r w5 ⟨rfl, hBB⟩
            have DD := hid (below_on SS.out.1 hBB)
            clear hBB
            go_wp2_with fail
            go_ret2
            exact FF.out _ _ (by rw [CC.out]; simp) DD.out
          | false =>
            have CC := hid (CR.out true false (by rw [if_neg ka, hA]) (by rw [if_neg kb, hB]))
            have SS := hid P.out
            clear CR P ka kb
            go_wp2_with fail
            go_ret2
            exact FF.out _ _ (by rw [CC.out]; simp) SS.out.1
        | false =>
          cases n with
          | true =>
            have CC := hid (CR.out false true (by rw [if_neg ka, hA]) (by rw [if_neg kb, hB]))
            have SS := hid P.out
            clear CR P ka kb
            go_wp2_with fail
            go_ret2
            exact FF.out _ _ (by rw [CC.out]; simp) SS.out.1
          | false =>
            have CC := hid (CR.out false false (by rw [if_neg ka, hA]) (by rw [if_neg kb, hB]))
            have SS := hid P.out
            clear CR P ka kb
            go_wp2_with fail
            refine (SZ.out _ _ _).mono ?_
            rintro r w5 ⟨rfl, hBB⟩
            have DD := hid (below_on SS.out.1 hBB)
            clear hBB
            go_wp2_with fail
            go_ret2
            exact FF.out _ _ (by rw [CC.out]; simp) DD.out
  · have FF : Hid (∀ w', Below w.heap.size w w' → Ending.returned (.tuple #[.int .i64 0, .int .i64 80]) = .returned (.tuple #[.int .i64 (cmpE na xs ea nb ys eb).1, .int .i64 (cmpE na xs ea nb ys eb).2]) ∧ Below w.heap.size w w') := fun w' b => ⟨by unfold cmpE; rw [if_neg hd], b⟩
    have EE : Hid (errOf xs ea = 80 ∨ (errOf xs ea = 0 ∧ errOf ys eb = 80)) := by
      show _ ∨ _
      unfold errOf
      by_cases c : Sc.IsDec xs ea
      · right; rw [if_pos c, if_neg (fun d => hd ⟨c, d⟩)]; exact ⟨rfl, rfl⟩
      · left; rw [if_neg c]
    clear hs ht hn hm hd
    go_enter Tryd.func30, Tryd.ntmps30
    go_wp2_with fail
    refine (TA.out _).mono ?_
    rintro r w1 ⟨v, rfl, ⟨s1, hv, hs1⟩, hB⟩
    unfold decV at hv
    subst hv
    have S1 := hid ((Z.out.on hB).on (alloc_b w1 (.cells #[.bool (nmd na xs ea).neg, .string s1, .int .i64 (nmd na xs ea).e] 29)))
    clear hB Z TA hs1
    obtain ⟨⟨c3, c4, c5⟩, -⟩ := S1.out.2.2.cells
    generalize errOf xs ea = x1 at *
    generalize nmd na xs ea = A at *
    go_wp2_with fail
    generalize w1.alloc (.cells #[.bool A.neg, .string s1, .int .i64 A.e] 29) = w2 at *
    generalize w1.heap.size = g at *
    refine (TB.out _).mono ?_
    rintro r w3 ⟨v, rfl, ⟨t1, hv, ht1⟩, hB⟩
    unfold decV at hv
    subst hv
    have D := hid (below_on (S1.out.on hB).1 (alloc_b w3 (.cells #[.bool (nmd nb ys eb).neg, .string t1, .int .i64 (nmd nb ys eb).e] 29)))
    clear hB S1 TB ht1 c3 c4 c5
    generalize errOf ys eb = y1 at *
    generalize nmd nb ys eb = B at *
    rcases EE.out with h | ⟨h, h'⟩
    · subst h
      go_wp2_with fail
      go_ret2
      exact FF.out _ D.out
    · subst h h'
      go_wp2_with fail
      go_ret2
      exact FF.out _ D.out
end Go.Proofs.YtjghlpkjbfaoiaaDoor
