/-
  abacusref20: Split. law20: joins.
-/
import Derived.Test.YtpdliogfeaafgaaDoorChT
namespace Go.Proofs.YtpdliogfeaafgaaDoor
open Go Go.RowKit Go.Deep Go.Shelf

namespace Ch
theorem cl_len (l sep : L8) : (cl l sep).length ≤ l.length + 2 := by
  have h1 : ∀ (k : Nat) (t : L8), (Lib.splitK sep 0 k t).length ≤ k + 1 := by
    intro k
    induction k with
    | zero => intro t; exact Nat.le_refl _
    | succ k ih =>
      intro t
      unfold Lib.splitK
      split
      · simp
      · have := ih (t.drop ((Lib.index t sep).toNat + sep.length))
        simp only [List.length_cons]
        omega
  have h2 := h1 (Lib.count l sep) l
  have h3 := Lib.count_le l sep
  rw [cl]
  omega
end Ch
set_option maxRecDepth 100000 in
set_option maxHeartbeats 2000000 in
theorem rsplit_any (s sep : ByteArray) (w : World) (hs : s.size ≤ 1048576) (hp : sep.size ≤ 140737488355328) :
    Calls Tryd.prog 9 #[.string s, .string sep] w (SpTold s sep w) := by
  by_cases h0 : s.size = 0
  · have F : Hid (SpTold s sep w (.returned (.slice none 0 0)) w) := ⟨⟨_, rfl, by rw [Ch.sp, if_pos h0]; exact TO.nil _ _⟩, Below.refl _ _⟩
    obtain rfl := Ch.size_zero h0
    clear h0 hs hp
    go_enter Tryd.func9, Tryd.ntmps9
    go_wp2_with fail
    go_ret
    exact F.out
  obtain ⟨n1, n2, n3⟩ := Ch.toList_ne h0
  by_cases h1 : sep = ⟨#[32]⟩
  · have G : Hid (∀ (w2 : World) (v : Value), TO w.heap.size w2 v (Ch.wd s) → Below w.heap.size w w2 → SpTold s sep w (.returned v) w2) := fun w2 v t b => ⟨⟨v, rfl, by rw [Ch.sp, if_neg h0, if_pos h1]; exact t⟩, b⟩
    have C := hid (rruns_any s w hs)
    subst h1
    clear hs h0 hp
    go_enter Tryd.func9, Tryd.ntmps9
    go_wp2_with fail
    refine C.out.mono ?_
    rintro e w2 ⟨⟨v, rfl, ht⟩, hb⟩
    have F := hid (G.out w2 v ht hb)
    clear ht hb C G
    go_wp2_with fail
    go_ret
    exact F.out
  have q1 : (sep.toList == [32]) = false := by
    have := Ch.eq_lit (s := sep) (t := ⟨#[32]⟩)
    rw [decide_eq_false h1, Ch.toList_tx ⟨#[32]⟩] at this
    exact this
  have q2 : ¬ sep.toList = [32] := by simpa using q1
  have hsi : (s.size : Int) ≤ 1048576 := by omega
  have hpi : (sep.size : Int) ≤ 140737488355328 := by omega
  have B0 := hid (Below.refl w.heap.size w)
  by_cases h2 : sep.size = 0
  · have G : Hid (∀ (w2 : World) (v : Value), TO w.heap.size w2 v (Ch.sg s) → Below w.heap.size w w2 → SpTold s sep w (.returned v) w2) := fun w2 v t b => ⟨⟨v, rfl, by rw [Ch.sp, if_neg h0, if_neg h1, if_pos h2]; exact t⟩, b⟩
    obtain rfl := Ch.size_zero h2
    have ST := hid (Ch.sg_take s)
    have SL := hid (Ch.sg_len s)
    have TK : Hid (∀ k, ((Ch.sg s).take k).length ≤ 1048576) := fun k => by rw [List.length_take, Ch.sg_len]; omega
    clear hs h0 h1 h2 hp q1 q2
    go_enter Tryd.func9, Tryd.ntmps9
    go_wp2_with fail
    go_loopg [5, 6] s.size (fun m pv iv wr => ∃ k : Nat, k + m = s.size ∧ iv = .int .i64 (k : Int) ∧ Hid (TO w.heap.size wr pv ((Ch.sg s).take k) ∧ Below w.heap.size w wr))
    case atStart => exact ⟨0, by omega, rfl, TO.nil _ _, B0.out⟩
    case round =>
      obtain ⟨k, hk, rfl, J⟩ := hrel
      by_cases kl : k < s.size
      · have kli : (k : Int) < (s.size : Int) := by omega
        obtain ⟨mv', w', ap, a1, a2, a3, -⟩ := J.out.1.push (s.extract k (k + 1)) (by have := TK.out k; omega) J.out.2.size
        have AP := hid ap
        have F : Hid (TO w.heap.size w' mv' ((Ch.sg s).take (k + 1)) ∧ Below w.heap.size w w') := by rw [ST.out k kl]; exact ⟨a1, J.out.2.trans a3⟩
        clear J ap a1 a2 a3 B0
        go_wp2_with (at_builtin; refine wpList_append_c rfl _ _ rfl AP.out (by rfl) (by rfl) ?_; clear AP)
        go_roundg (s.size - (k + 1))
        case measure => omega
        case rel => exact ⟨k + 1, by omega, by go_num, F⟩
      · have kli : ¬ (k : Int) < (s.size : Int) := by omega
        have q := J.out
        rw [List.take_of_length_le (by rw [SL.out]; omega)] at q
        have F := hid (G.out _ _ q.1 q.2)
        clear q J
        go_wp2_with fail
        go_ret
        exact F.out
  · have G : Hid (∀ (w2 : World) (v : Value), TO w.heap.size w2 v ((Ch.cl s.data.toList sep.data.toList).map Ch.tx) → Below w.heap.size w w2 → SpTold s sep w (.returned v) w2) := fun w2 v t b => ⟨⟨v, rfl, by rw [Ch.sp, if_neg h0, if_neg h1, if_neg h2, Ch.cut_cl]; exact t⟩, b⟩
    obtain ⟨m1, m2, m3⟩ := Ch.toList_ne h2
    have HL := hid (Ch.size_len s)
    have HP := hid (Ch.size_len sep)
    have HNE : Hid (sep.data.toList ≠ []) := Ch.sep_ne (by omega)
    have XE : Hid (∀ b i, s.extract b i = Ch.tx ((s.data.toList.drop b).take (i - b))) := fun b i => Ch.tx_ext s b i
    have XD : Hid (∀ b, s.extract b s.size = Ch.tx (s.data.toList.drop b)) := fun b => by rw [← Ch.tx_self (s.extract b s.size), Lib.extract_to_end]
    have SD := hid (fun (i : Nat) (hi : i ≤ s.size) (wx : World) => rstands_any s sep i wx hi (by omega) hp)
    have LB : Hid (∀ ps : List Ch.L8, (∃ r, ps ++ r = Ch.cl s.data.toList sep.data.toList) → ps.length ≤ 1048578) := fun ps ⟨r, hr⟩ => by
      have h3 := Ch.cl_len s.data.toList sep.data.toList
      rw [← hr, List.length_append, Ch.size_len] at h3
      omega
    generalize s.data.toList = l at *
    generalize sep.data.toList = sl at *
    have C0 := hid (Ch.CU.start l sl)
    clear hs h0 h1 h2 hp
    go_enter Tryd.func9, Tryd.ntmps9
    go_wp2_with fail
    go_loopg [5, 7, 8] s.size (fun m pv gv iv wr => ∃ (i b : Nat), b ≤ i ∧ i ≤ s.size ∧ m = s.size - i ∧ iv = .int .i64 (i : Int) ∧ gv = .int .i64 (b : Int) ∧ Hid (∃ ps : List Ch.L8, TO w.heap.size wr pv (ps.map Ch.tx) ∧ Below w.heap.size w wr ∧ Ch.CU l sl b i ps))
    case atStart => exact ⟨0, 0, by omega, by omega, by omega, rfl, rfl, [], TO.nil _ _, B0.out, C0.out⟩
    case round =>
      obtain ⟨i, b, hbi, his, hm, rfl, rfl, J⟩ := hrel
      have HM := hid hm
      clear hm B0 C0
      obtain ⟨ps, hT, hB, hC⟩ := J.out
      clear J
      have hbz : (b : Int) ≤ (i : Int) := by omega
      by_cases il : i < s.size
      · have ili : (i : Int) < (s.size : Int) := by omega
        have S1 := hid (SD.out i his wr)
        cases ho : Lib.occAt l sl i with
        | true =>
          rw [ho] at S1
          obtain ⟨hr, hC2⟩ := hC.hit HNE.out (by rw [HL.out]; exact il) ho
          rw [HL.out, HP.out] at hr
          rw [HP.out] at hC2
          have hri : (i : Int) + (sep.size : Int) ≤ (s.size : Int) := by omega
          have PL := LB.out ps ⟨_, hC.2.2.2⟩
          obtain ⟨mv', w', ap, a1, a2, a3, -⟩ := hT.push (s.extract b i) (by rw [List.length_map]; omega) hB.size
          have AP := hid ap
          have F : Hid (∃ ps : List Ch.L8, TO w.heap.size w' mv' (ps.map Ch.tx) ∧ Below w.heap.size w w' ∧ Ch.CU l sl (i + sep.size) (i + sep.size) ps) := by
            rw [XE.out] at a1
            exact ⟨ps ++ [(l.drop b).take (i - b)], by rw [List.map_append]; exact a1, hB.trans a3, hC2⟩
          clear hT hB hC hC2 ap a1 a2 a3 ho PL
          have sp0 : 0 < sep.size := by
            have := List.length_pos_iff.2 HNE.out
            rw [HP.out] at this
            exact this
          go_wp2_with fail
          refine S1.out.mono ?_
          rintro e w2 ⟨rfl, hw2⟩
          rw [hw2]
          go_wp2_with (at_builtin; refine wpList_append_c rfl _ _ rfl AP.out (by rfl) (by rfl) ?_; clear AP)
          go_roundg (s.size - (i + sep.size))
          case measure => have := HM.out; omega
          case rel => exact ⟨i + sep.size, i + sep.size, by omega, by omega, by omega, by go_num, by go_num, F⟩
        | false =>
          rw [ho] at S1
          have F : Hid (∃ ps : List Ch.L8, TO w.heap.size wr u5 (ps.map Ch.tx) ∧ Below w.heap.size w wr ∧ Ch.CU l sl b (i + 1) ps) := ⟨ps, hT, hB, hC.miss (by rw [HL.out]; exact il) ho⟩
          clear hT hB hC ho
          go_wp2_with fail
          refine S1.out.mono ?_
          rintro e w2 ⟨rfl, hw2⟩
          rw [hw2]
          go_wp2_with fail
          go_roundg (s.size - (i + 1))
          case measure => have := HM.out; omega
          case rel => exact ⟨i + 1, b, by omega, by omega, by omega, by go_num, rfl, F⟩
      · have ili : ¬ (i : Int) < (s.size : Int) := by omega
        have hbs : (b : Int) ≤ (s.size : Int) := by omega
        have PL := LB.out ps ⟨_, hC.2.2.2⟩
        obtain ⟨mv', w', ap, a1, a2, a3, -⟩ := hT.push (s.extract b s.size) (by rw [List.length_map]; omega) hB.size
        have AP := hid ap
        have F : Hid (SpTold s sep w (.returned mv') w') := by
          rw [XD.out] at a1
          have e := hC.done HNE.out (by rw [HL.out]; omega)
          refine G.out _ _ ?_ (hB.trans a3)
          rw [← e, List.map_append]
          exact a1
        clear hT hB hC ap a1 a2 a3 PL
        go_wp2_with (at_builtin; refine wpList_append_c rfl _ _ rfl AP.out (by rfl) (by rfl) ?_; clear AP)
        go_ret
        exact F.out
set_option maxRecDepth 100000 in
set_option maxHeartbeats 2000000 in
theorem ljoins_yes (a : Option Addr) (cap : Nat) (xs : List ByteArray) (sep : ByteArray) (w : World) (h : TR w a xs) (hn : xs.length ≤ 8796093022208) (hx : ∀ i, (xs.getD i ByteArray.empty).size ≤ 140737488355328) (hs : sep.size ≤ 140737488355328) :
    Calls Tryd.prog 8 #[.slice a xs.length cap, .string sep] w fun e w' => e = .returned (.bool true) ∧ Below w.heap.size w w' := by
  have J1 := hid (rjoin_any a cap xs sep w h hn hx hs)
  have J2 : Hid (∀ wx, Below w.heap.size w wx → Calls Tryd.prog 10 #[.slice a xs.length cap, .string sep] wx (JoTold sep.data.toList xs wx)) := fun wx b => cjoin_any a cap xs sep wx (h.below b (Nat.le_refl _)) hn hx hs
  have J3 : Hid (∀ wx, Below w.heap.size w wx → Calls Tryd.prog 20 #[.slice a xs.length cap] wx (JoTold [] xs wx)) := fun wx b => rcat_any a cap xs wx (h.below b (Nat.le_refl _)) hn hx
  have J4 : Hid (∀ wx, Below w.heap.size w wx → Calls Tryd.prog 13 #[.slice a xs.length cap] wx (JoTold [] xs wx)) := fun wx b => ccat_any a cap xs wx (h.below b (Nat.le_refl _)) hn hx
  unfold JoTold at J1 J2 J3 J4
  clear h hn hx hs
  generalize Ch.jS sep.data.toList xs = S1 at *
  generalize Ch.jE sep.data.toList xs = E1 at *
  generalize Ch.jS [] xs = S2 at *
  generalize Ch.jE [] xs = E2 at *
  go_enter Tryd.func8, Tryd.ntmps8
  go_wp2_with fail
  refine J1.out.mono ?_
  rintro e w1 ⟨rfl, hb⟩
  have B1 := hid hb
  clear hb J1
  go_wp2_with fail
  refine (J2.out _ B1.out).mono ?_
  rintro e w2 ⟨rfl, hb⟩
  have B2 := hid (below_on B1.out hb)
  clear hb J2 B1
  go_wp2_with fail
  refine (J3.out _ B2.out).mono ?_
  rintro e w3 ⟨rfl, hb⟩
  have B3 := hid (below_on B2.out hb)
  clear hb J3 B2
  go_wp2_with fail
  refine (J4.out _ B3.out).mono ?_
  rintro e w4 ⟨rfl, hb⟩
  have B4 := hid (below_on B3.out hb)
  clear hb J4 B3
  go_wp2_with fail
  go_ret
  exact ⟨rfl, B4.out⟩
end Go.Proofs.YtpdliogfeaafgaaDoor
