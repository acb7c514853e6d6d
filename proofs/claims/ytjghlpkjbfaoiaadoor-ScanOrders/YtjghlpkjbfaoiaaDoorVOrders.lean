/-
  law08: ScanOrders.
-/
import Derived.Test.YtjghlpkjbfaoiaaDoorVIs
namespace Go.Proofs.YtjghlpkjbfaoiaaDoor
open Go Go.RowKit Go.Deep

/-- Three Decs in boxes of their own. -/
def Tri (w wx : World) (na nb nc : Bool) (s t u : ByteArray) (ea eb ec : Int) : Prop :=
  Below w.heap.size w wx ∧ Row3 wx w.heap.size (.bool na) (.string s) (.int .i64 ea) ∧ Row3 wx (w.heap.size + 1) (.bool nb) (.string t) (.int .i64 eb) ∧ Row3 wx (w.heap.size + 2) (.bool nc) (.string u) (.int .i64 ec)
theorem Tri.new (w : World) (na nb nc : Bool) (s t u : ByteArray) (ea eb ec : Int) : Tri w (((w.alloc (.cells #[.bool na, .string s, .int .i64 ea] 29)).alloc (.cells #[.bool nb, .string t, .int .i64 eb] 29)).alloc (.cells #[.bool nc, .string u, .int .i64 ec] 29)) na nb nc s t u ea eb ec := by
  have h := Two3.new w (.bool na) (.string s) (.int .i64 ea) (.bool nb) (.string t) (.int .i64 eb)
  have h2 := h.on (alloc_b _ (.cells #[.bool nc, .string u, .int .i64 ec] 29))
  refine ⟨h2.1, h2.2.1, h2.2.2, ?_⟩
  have := heap_alloc_new ((w.alloc (.cells #[.bool na, .string s, .int .i64 ea] 29)).alloc (.cells #[.bool nb, .string t, .int .i64 eb] 29)) (.cells #[.bool nc, .string u, .int .i64 ec] 29)
  rw [show ((w.alloc (.cells #[.bool na, .string s, .int .i64 ea] 29)).alloc (.cells #[.bool nb, .string t, .int .i64 eb] 29)).heap.size = w.heap.size + 2 by simp] at this
  exact this
theorem Tri.on {w wx w' : World} {na nb nc : Bool} {s t u : ByteArray} {ea eb ec : Int} (h : Tri w wx na nb nc s t u ea eb ec) (k : Below wx.heap.size wx w') : Tri w w' na nb nc s t u ea eb ec :=
  ⟨below_on h.1 k, h.2.1.below k h.2.1.lt, h.2.2.1.below k h.2.2.1.lt, h.2.2.2.below k h.2.2.2.lt⟩
theorem Tri.drew {w wx : World} {na nb nc : Bool} {s t u : ByteArray} {ea eb ec : Int} (h : Tri w wx na nb nc s t u ea eb ec) : Tri w wx.drew na nb nc s t u ea eb ec := h.on (below_drewN (Below.refl _ _) 1)
theorem Tri.flat {w wx : World} {na nb nc : Bool} {s t u : ByteArray} {ea eb ec : Int} (h : Tri w wx na nb nc s t u ea eb ec) :
    (wx.cell? ⟨w.heap.size, 0, none⟩ = some (.bool na) ∧ wx.cell? ⟨w.heap.size, 1, none⟩ = some (.string s) ∧ wx.cell? ⟨w.heap.size, 2, none⟩ = some (.int .i64 ea)) ∧
    (wx.cell? ⟨w.heap.size + 1, 0, none⟩ = some (.bool nb) ∧ wx.cell? ⟨w.heap.size + 1, 1, none⟩ = some (.string t) ∧ wx.cell? ⟨w.heap.size + 1, 2, none⟩ = some (.int .i64 eb)) ∧
    (wx.cell? ⟨w.heap.size + 2, 0, none⟩ = some (.bool nc) ∧ wx.cell? ⟨w.heap.size + 2, 1, none⟩ = some (.string u) ∧ wx.cell? ⟨w.heap.size + 2, 2, none⟩ = some (.int .i64 ec)) := ⟨h.2.1.cells.1, h.2.2.1.cells.1, h.2.2.2.cells.1⟩

theorem Tri.six {w wx : World} {na nb nc : Bool} {s t u : ByteArray} {ea eb ec : Int} (h : Tri w wx na nb nc s t u ea eb ec) :
    (wx.cell? ⟨w.heap.size, 0, none⟩ = some (.bool na) ∧ wx.cell? ⟨w.heap.size, 1, none⟩ = some (.string s) ∧ wx.cell? ⟨w.heap.size, 2, none⟩ = some (.int .i64 ea)) ∧
    (wx.cell? ⟨w.heap.size + 1, 0, none⟩ = some (.bool nb) ∧ wx.cell? ⟨w.heap.size + 1, 1, none⟩ = some (.string t) ∧ wx.cell? ⟨w.heap.size + 1, 2, none⟩ = some (.int .i64 eb)) := ⟨h.2.1.cells.1, h.2.2.1.cells.1⟩

theorem cmp_lit0 : cmpE false [57] 1 false [49, 48, 48] 0 = (-1, 0) := by decide +kernel

theorem isdec_moved {ds : List Int} {e k : Int} (h : Sc.IsDec ds e) (h1 : e < 576460752303423488) (h0 : -576460752303423488 < e) (k0 : -3 ≤ k) (k1 : k ≤ 288230376151711744) (hl : ds.length ≤ 281474976710656) : Sc.IsDec ds (e + k) :=
  ⟨h.1, by omega, by omega, h.2.2.2.1, fun _ => by have := Sc.tz_le ds; omega⟩
theorem isdec_tail {ds : List Int} {e : Int} (h : Sc.IsDec ds e) (h1 : e < 576460752303423488) (h0 : -576460752303423488 < e) (hl : ds.length ≤ 281474976710656) : Sc.IsDec ([48, 48] ++ ds ++ [48, 48, 48]) (e - 3) := by
  refine ⟨by simp, by omega, by omega, ?_, fun _ => by have := Sc.tz_le ([48, 48] ++ ds ++ [48, 48, 48]); simp at this ⊢; omega⟩
  intro x hx
  simp only [List.mem_append, List.mem_cons, List.not_mem_nil, or_false] at hx
  rcases hx with ((h' | h') | h') | (h' | h' | h')
  all_goals first | exact h.2.2.2.1 _ h' | (rw [h']; rfl)

set_option maxRecDepth 100000 in
set_option maxHeartbeats 8000000 in
theorem orders_any (na nb nc : Bool) (s t u : ByteArray) (xs ys zs : List Int) (ea eb ec : Int) (w : World) (hs : Str s xs) (ht : Str t ys) (hu : Str u zs) (ls : xs.length ≤ 140737488355328) (lt : ys.length ≤ 140737488355328) (lu : zs.length ≤ 140737488355328) :
    Calls Tryd.prog 8 #[decV na s ea, decV nb t eb, decV nc u ec] w fun r w' => r = .returned (.bool true) ∧ Below w.heap.size w w' := by
  have IA := hid (fun wx => is_any na s xs ea wx hs (by omega))
  have IB := hid (fun wx => is_any nb t ys eb wx ht (by omega))
  have IC := hid (fun wx => is_any nc u zs ec wx hu (by omega))
  have C0 : Hid (∀ wx, Calls Tryd.prog 21 #[.agg #[.bool false, .string ⟨#[57]⟩, .int .i64 1], .agg #[.bool false, .string ⟨#[49, 48, 48]⟩, .int .i64 0]] wx fun r w' => r = .returned (.tuple #[.int .i64 (-1), .int .i64 0]) ∧ Below wx.heap.size wx w') := fun wx => by
    have := cmp_any false false ⟨#[57]⟩ ⟨#[49, 48, 48]⟩ [57] [49, 48, 48] 1 0 wx rfl rfl (by decide) (by decide)
    rw [cmp_lit0] at this
    exact this
  have Z := hid (Tri.new w na nb nc s t u ea eb ec)
  obtain ⟨da, hda⟩ : ∃ d, decide (Sc.IsDec xs ea) = d := ⟨_, rfl⟩
  obtain ⟨db, hdb⟩ : ∃ d, decide (Sc.IsDec ys eb) = d := ⟨_, rfl⟩
  obtain ⟨dc, hdc⟩ : ∃ d, decide (Sc.IsDec zs ec) = d := ⟨_, rfl⟩
  rw [hda] at IA
  rw [hdb] at IB
  rw [hdc] at IC
  have GO : Hid (da = true → db = true → dc = true → ea < 576460752303423488 → -576460752303423488 < ea → eb < 576460752303423488 → -576460752303423488 < eb → ec < 576460752303423488 → -576460752303423488 < ec →
      ∃ (A B C : Sc.D), Sc.Nrm A ∧ Sc.Nrm B ∧ Sc.Nrm C ∧
        (∀ wx, Calls Tryd.prog 21 #[.agg #[.bool na, .string s, .int .i64 ea], .agg #[.bool nb, .string t, .int .i64 eb]] wx fun r w' => r = .returned (.tuple #[.int .i64 (Sc.cmpD A B), .int .i64 0]) ∧ Below wx.heap.size wx w') ∧
        (∀ wx, Calls Tryd.prog 21 #[.agg #[.bool nb, .string t, .int .i64 eb], .agg #[.bool na, .string s, .int .i64 ea]] wx fun r w' => r = .returned (.tuple #[.int .i64 (- Sc.cmpD A B), .int .i64 0]) ∧ Below wx.heap.size wx w') ∧
        (∀ wx, Calls Tryd.prog 21 #[.agg #[.bool nb, .string t, .int .i64 eb], .agg #[.bool nc, .string u, .int .i64 ec]] wx fun r w' => r = .returned (.tuple #[.int .i64 (Sc.cmpD B C), .int .i64 0]) ∧ Below wx.heap.size wx w') ∧
        (∀ wx, Calls Tryd.prog 21 #[.agg #[.bool na, .string s, .int .i64 ea], .agg #[.bool nc, .string u, .int .i64 ec]] wx fun r w' => r = .returned (.tuple #[.int .i64 (Sc.cmpD A C), .int .i64 0]) ∧ Below wx.heap.size wx w') ∧
        (∀ wx, Calls Tryd.prog 21 #[.agg #[.bool na, .string s, .int .i64 (ea + 288230376151711744)], .agg #[.bool nb, .string t, .int .i64 (eb + 288230376151711744)]] wx fun r w' => r = .returned (.tuple #[.int .i64 (Sc.cmpD A B), .int .i64 0]) ∧ Below wx.heap.size wx w') ∧
        (∀ wx, Calls Tryd.prog 21 #[.agg #[.bool (!na), .string s, .int .i64 ea], .agg #[.bool (!nb), .string t, .int .i64 eb]] wx fun r w' => r = .returned (.tuple #[.int .i64 (- Sc.cmpD A B), .int .i64 0]) ∧ Below wx.heap.size wx w') ∧
        (∀ wx, Calls Tryd.prog 21 #[.agg #[.bool na, .string (⟨#[48, 48]⟩ ++ s ++ ⟨#[48, 48, 48]⟩), .int .i64 (ea - 3)], .agg #[.bool nb, .string t, .int .i64 eb]] wx fun r w' => r = .returned (.tuple #[.int .i64 (Sc.cmpD A B), .int .i64 0]) ∧ Below wx.heap.size wx w') ∧
        (∀ wx, Calls Tryd.prog 19 #[.agg #[.bool na, .string s, .int .i64 ea]] wx fun r w' => ∃ v, r = .returned (.tuple #[v, .int .i64 0]) ∧ DecIs v A ∧ Below wx.heap.size wx w') ∧
        (∀ wx, Calls Tryd.prog 19 #[.agg #[.bool nb, .string t, .int .i64 eb]] wx fun r w' => ∃ v, r = .returned (.tuple #[v, .int .i64 0]) ∧ DecIs v B ∧ Below wx.heap.size wx w')) := by
    intro e1 e2 e3 a1 a0 b1 b0 c1 c0
    subst e1 e2 e3
    have iA := of_decide_eq_true hda
    have iB := of_decide_eq_true hdb
    have iC := of_decide_eq_true hdc
    have cE : ∀ {n1 n2 : Bool} {d1 d2 : List Int} {f1 f2 : Int}, Sc.IsDec d1 f1 → Sc.IsDec d2 f2 → cmpE n1 d1 f1 n2 d2 f2 = (Sc.cmpD (Sc.nrm n1 d1 f1) (Sc.nrm n2 d2 f2), 0) := fun c d => by unfold cmpE; rw [if_pos ⟨c, d⟩]
    have nA := Sc.nrm_is na xs ea
    have nB := Sc.nrm_is nb ys eb
    have nC := Sc.nrm_is nc zs ec
    have iA2 := isdec_moved iA a1 a0 (k := 288230376151711744) (by omega) (by omega) (by omega)
    have iB2 := isdec_moved iB b1 b0 (k := 288230376151711744) (by omega) (by omega) (by omega)
    have iA3 := isdec_tail iA a1 a0 (by omega)
    refine ⟨Sc.nrm na xs ea, Sc.nrm nb ys eb, Sc.nrm nc zs ec, nA, nB, nC, ?_, ?_, ?_, ?_, ?_, ?_, ?_, ?_, ?_⟩
    · intro wx
      have := cmp_any na nb s t xs ys ea eb wx hs ht (by omega) (by omega)
      rw [cE iA iB] at this; exact this
    · intro wx
      have := cmp_any nb na t s ys xs eb ea wx ht hs (by omega) (by omega)
      rw [cE iB iA, Sc.cmpD_anti nA nB] at this; exact this
    · intro wx
      have := cmp_any nb nc t u ys zs eb ec wx ht hu (by omega) (by omega)
      rw [cE iB iC] at this; exact this
    · intro wx
      have := cmp_any na nc s u xs zs ea ec wx hs hu (by omega) (by omega)
      rw [cE iA iC] at this; exact this
    · intro wx
      have := cmp_any na nb s t xs ys (ea + 288230376151711744) (eb + 288230376151711744) wx hs ht (by omega) (by omega)
      rw [cE iA2 iB2, Sc.cmpD_alike nA nB (Sc.nrm_is _ _ _) (Sc.nrm_is _ _ _) (by rw [Sc.sgn_nrm, Sc.sgn_nrm]) (by rw [Sc.sgn_nrm, Sc.sgn_nrm]) (fun h1 h2 => Sc.mc_moved (by intro c; rw [Sc.sgn_nrm, if_pos c] at h1; exact h1 rfl) (by intro c; rw [Sc.sgn_nrm, if_pos c] at h2; exact h2 rfl))] at this
      exact this
    · intro wx
      have := cmp_any (!na) (!nb) s t xs ys ea eb wx hs ht (by omega) (by omega)
      have sg : ∀ (n : Bool) (d : List Int) (e : Int), Sc.sgn (Sc.nrm (!n) d e) = - Sc.sgn (Sc.nrm n d e) := by
        intro n d e
        rw [Sc.sgn_nrm, Sc.sgn_nrm]
        cases n <;> simp <;> split <;> simp
      have mm : ∀ (h1 : Sc.lz xs ≠ xs.length) (h2 : Sc.lz ys ≠ ys.length), Sc.mc (Sc.nrm (!na) xs ea) (Sc.nrm (!nb) ys eb) = Sc.mc (Sc.nrm na xs ea) (Sc.nrm nb ys eb) := by
        intro h1 h2
        have := Sc.mc_moved (n1 := na) (n2 := nb) (m1 := !na) (m2 := !nb) (e1 := ea) (e2 := eb) (k := 0) h1 h2
        rw [Int.add_zero, Int.add_zero] at this; exact this
      rw [cE iA iB, Sc.cmpD_turn nA nB (Sc.nrm_is _ _ _) (Sc.nrm_is _ _ _) (sg _ _ _) (sg _ _ _) (fun h1 h2 => mm (by intro c; rw [Sc.sgn_nrm, if_pos c] at h1; exact h1 rfl) (by intro c; rw [Sc.sgn_nrm, if_pos c] at h2; exact h2 rfl))] at this
      exact this
    · intro wx
      have := cmp_any na nb (⟨#[48, 48]⟩ ++ s ++ ⟨#[48, 48, 48]⟩) t ([48, 48] ++ xs ++ [48, 48, 48]) ys (ea - 3) eb wx (Str.append (Str.append rfl hs) rfl) ht (by simp; omega) (by omega)
      rw [cE iA3 iB, Sc.nrm_tail] at this
      exact this
    · intro wx
      refine (norm_any na s xs ea wx hs (by omega)).mono ?_
      rintro r w' ⟨v, rfl, hv, hB⟩
      unfold errOf nmd at *
      rw [if_pos iA] at *
      exact ⟨v, rfl, hv, hB⟩
    · intro wx
      refine (norm_any nb t ys eb wx ht (by omega)).mono ?_
      rintro r w' ⟨v, rfl, hv, hB⟩
      unfold errOf nmd at *
      rw [if_pos iB] at *
      exact ⟨v, rfl, hv, hB⟩
  have ncat1 : ¬ (9223372036854775807 < xs.length) := by omega
  have hsz := hs.size
  have LS := hid ls
  clear hs ht hu ls lt lu hda hdb hdc
  unfold decV at IA IB IC ⊢
  go_enter Tryd.func8, Tryd.ntmps8
  go_wp2_with fail
  generalize ((w.alloc (.cells #[.bool na, .string s, .int .i64 ea] 29)).alloc (.cells #[.bool nb, .string t, .int .i64 eb] 29)).alloc (.cells #[.bool nc, .string u, .int .i64 ec] 29) = w0 at *
  refine (C0.out _).mono ?_
  rintro r w1 ⟨rfl, hB⟩
  have S1 := hid (Z.out.on hB)
  clear hB C0 Z
  obtain ⟨⟨c0, c1, c2⟩, ⟨c3, c4, c5⟩, c6, c7, c8⟩ := S1.out.flat
  go_wp2_with fail
  refine (IA.out _).mono ?_
  rintro r w2 ⟨rfl, hB⟩
  have S2 := hid (S1.out.on hB)
  clear hB IA S1 c0 c1 c2 c3 c4 c5 c6 c7 c8
  obtain ⟨⟨c0, c1, c2⟩, ⟨c3, c4, c5⟩, c6, c7, c8⟩ := S2.out.flat
  cases da with
  | false =>
    go_wp2_with fail
    go_ret
    exact ⟨rfl, S2.out.1⟩
  | true =>
    go_wp2_with fail
    refine (IB.out _).mono ?_
    rintro r w3 ⟨rfl, hB⟩
    have S3 := hid (S2.out.on hB)
    clear hB IB S2 c0 c1 c2 c3 c4 c5 c6 c7 c8
    obtain ⟨⟨c0, c1, c2⟩, ⟨c3, c4, c5⟩, c6, c7, c8⟩ := S3.out.flat
    cases db with
    | false =>
      go_wp2_with fail
      go_ret
      exact ⟨rfl, S3.out.1⟩
    | true =>
      go_wp2_with fail
      refine (IC.out _).mono ?_
      rintro r w4 ⟨rfl, hB⟩
      have S4 := hid (S3.out.on hB)
      clear hB IC S3 c0 c1 c2 c3 c4 c5 c6 c7 c8
      obtain ⟨⟨c0, c1, c2⟩, ⟨c3, c4, c5⟩, c6, c7, c8⟩ := S4.out.flat
      cases dc with
      | false =>
        go_wp2_with fail
        go_ret
        exact ⟨rfl, S4.out.1⟩
      | true =>
        by_cases hall : ea < 576460752303423488 ∧ eb < 576460752303423488 ∧ ec < 576460752303423488 ∧ -576460752303423488 < ea ∧ -576460752303423488 < eb ∧ -576460752303423488 < ec
        · obtain ⟨a1, b1, c1', a0, b0, c0'⟩ := hall
          obtain ⟨A, B, C, nA, nB, nC, CAB, CBA, CBC, CAC, CUP, COV, CTA, NA, NB⟩ := GO.out (by first | rfl | trivial) (by first | rfl | trivial) (by first | rfl | trivial) a1 a0 b1 b0 c1' c0'
          replace CAB := hid CAB
          replace CBA := hid CBA
          replace CBC := hid CBC
          replace CAC := hid CAC
          replace CUP := hid CUP
          replace COV := hid COV
          replace CTA := hid CTA
          replace NA := hid NA
          replace NB := hid NB
          have ABb := Sc.cmpD_b nA nB
          have BCb := Sc.cmpD_b nB nC
          have ACb := Sc.cmpD_b nA nC
          have TR := hid (Sc.cmpD_trans nA nB nC)
          have ZE := hid (Sc.cmpD_zero nA nB)
          clear GO nA nB nC
          generalize Sc.cmpD A B = ab at *
          generalize Sc.cmpD B C = bc at *
          generalize Sc.cmpD A C = ac at *
          go_wp2_with fail
          refine (CAB.out _).mono ?_
          rintro r w5 ⟨rfl, hB⟩
          have S5 := hid (S4.out.on hB)
          clear hB CAB S4 c0 c1 c2 c3 c4 c5 c6 c7 c8
          obtain ⟨⟨c0, c1, c2⟩, ⟨c3, c4, c5⟩, c6, c7, c8⟩ := S5.out.flat
          go_wp2_with fail
          refine (CBA.out _).mono ?_
          rintro r w6 ⟨rfl, hB⟩
          have S6 := hid (S5.out.on hB)
          clear hB CBA S5 c0 c1 c2 c3 c4 c5 c6 c7 c8
          obtain ⟨⟨c0, c1, c2⟩, ⟨c3, c4, c5⟩, c6, c7, c8⟩ := S6.out.flat
          go_wp2_with fail
          refine (CBC.out _).mono ?_
          rintro r w7 ⟨rfl, hB⟩
          have S7 := hid (S6.out.on hB)
          clear hB CBC S6 c0 c1 c2 c3 c4 c5 c6 c7 c8
          obtain ⟨⟨c0, c1, c2⟩, ⟨c3, c4, c5⟩, c6, c7, c8⟩ := S7.out.flat
          go_wp2_with fail
          refine (CAC.out _).mono ?_
          rintro r w8 ⟨rfl, hB⟩
          have S8 := hid (S7.out.on hB)
          clear hB CAC S7 c0 c1 c2 c3 c4 c5 c6 c7 c8
          have MA := hid (fun wx => moved_any na s ea 288230376151711744 wx (by omega) (by omega) (by omega) (by omega))
          have MB := hid (fun wx => moved_any nb t eb 288230376151711744 wx (by omega) (by omega) (by omega) (by omega))
          have UA := hid (fun wx => turned_any na s ea wx)
          have UB := hid (fun wx => turned_any nb t eb wx)
          go_upto_region 11 with fail
          have T0 := hid S8.out.drew
          go_region_held3 (fun wx => (wx.cell? ⟨w.heap.size, 0, none⟩ = some (.bool na) ∧ wx.cell? ⟨w.heap.size, 1, none⟩ = some (.string s) ∧ wx.cell? ⟨w.heap.size, 2, none⟩ = some (.int .i64 ea)) ∧ (wx.cell? ⟨w.heap.size + 1, 0, none⟩ = some (.bool nb) ∧ wx.cell? ⟨w.heap.size + 1, 1, none⟩ = some (.string t) ∧ wx.cell? ⟨w.heap.size + 1, 2, none⟩ = some (.int .i64 eb))) (first | (with_reducible exact T3.out.six) | (with_reducible exact T2.out.six) | (with_reducible exact T1.out.six) | (with_reducible exact T0.out.six)) (first
            | (go_at_call 23; (first
                | (with_reducible refine (MA.out _).mono ?_; rintro e wn ⟨rfl, hB⟩; (first | (have T2 := hid (T1.out.on hB); clear hB) | (have T1 := hid (T0.out.on hB); clear hB)))
                | (with_reducible refine (MB.out _).mono ?_; rintro e wn ⟨rfl, hB⟩; (first | (have T2 := hid (T1.out.on hB); clear hB) | (have T1 := hid (T0.out.on hB); clear hB)))))
            | (go_at_call 21; with_reducible refine (CUP.out _).mono ?_; rintro e wn ⟨rfl, hB⟩; have T3 := hid (T2.out.on hB); clear hB))
          have S9 := hid T3.out
          clear T0 T1 T2 T3 S8 CUP MA MB
          go_upto_region 12 with fail
          have T0 := hid S9.out.drew
          go_region_held3 (fun wx => (wx.cell? ⟨w.heap.size, 0, none⟩ = some (.bool na) ∧ wx.cell? ⟨w.heap.size, 1, none⟩ = some (.string s) ∧ wx.cell? ⟨w.heap.size, 2, none⟩ = some (.int .i64 ea)) ∧ (wx.cell? ⟨w.heap.size + 1, 0, none⟩ = some (.bool nb) ∧ wx.cell? ⟨w.heap.size + 1, 1, none⟩ = some (.string t) ∧ wx.cell? ⟨w.heap.size + 1, 2, none⟩ = some (.int .i64 eb))) (first | (with_reducible exact T3.out.six) | (with_reducible exact T2.out.six) | (with_reducible exact T1.out.six) | (with_reducible exact T0.out.six)) (first
            | (go_at_call 24; (first
                | (with_reducible refine (UA.out _).mono ?_; rintro e wn ⟨rfl, hB⟩; (first | (have T2 := hid (T1.out.on hB); clear hB) | (have T1 := hid (T0.out.on hB); clear hB)))
                | (with_reducible refine (UB.out _).mono ?_; rintro e wn ⟨rfl, hB⟩; (first | (have T2 := hid (T1.out.on hB); clear hB) | (have T1 := hid (T0.out.on hB); clear hB)))))
            | (go_at_call 21; with_reducible refine (COV.out _).mono ?_; rintro e wn ⟨rfl, hB⟩; have T3 := hid (T2.out.on hB); clear hB))
          have S10 := hid T3.out
          clear T0 T1 T2 T3 S9 COV UA UB
          obtain ⟨⟨c0, c1, c2⟩, ⟨c3, c4, c5⟩, c6, c7, c8⟩ := S10.out.flat
          go_wp2_with fail
          all_goals first | (exfalso; have := LS.out; (try simp only [ByteArray.size_append] at *); omega) | skip
          refine (CTA.out _).mono ?_
          rintro r w9 ⟨rfl, hB⟩
          have S11 := hid (S10.out.on hB)
          clear hB CTA S10 c0 c1 c2 c3 c4 c5 c6 c7 c8
          obtain ⟨⟨c0, c1, c2⟩, ⟨c3, c4, c5⟩, c6, c7, c8⟩ := S11.out.flat
          go_wp2_with fail
          refine (NA.out _).mono ?_
          rintro r w10 ⟨v, rfl, ⟨x, hv, hx⟩, hB⟩
          unfold decV at hv
          subst hv
          have S12 := hid ((S11.out.on hB).on (alloc_b w10 (.cells #[.bool A.neg, .string x, .int .i64 A.e] 29)))
          have X1 : Hid (Row3 (w10.alloc (.cells #[.bool A.neg, .string x, .int .i64 A.e] 29)) w10.heap.size (.bool A.neg) (.string x) (.int .i64 A.e)) := Row3.new _ _ _ _
          have HX := hid hx
          clear hB NA S11 c0 c1 c2 c3 c4 c5 c6 c7 c8 hx
          obtain ⟨⟨c0, c1, c2⟩, ⟨c3, c4, c5⟩, c6, c7, c8⟩ := S12.out.flat
          go_wp2_with fail
          generalize w10.alloc (.cells #[.bool A.neg, .string x, .int .i64 A.e] 29) = w11 at *
          generalize w10.heap.size = g at *
          refine (NB.out _).mono ?_
          rintro r w12 ⟨v, rfl, ⟨y, hv, hy⟩, hB⟩
          unfold decV at hv
          subst hv
          have D13 := hid (below_on (S12.out.on hB).1 (alloc_b w12 (.cells #[.bool B.neg, .string y, .int .i64 B.e] 29)))
          have X2 := hid ((X1.out.below hB X1.out.lt).below (alloc_b w12 (.cells #[.bool B.neg, .string y, .int .i64 B.e] 29)) (X1.out.below hB X1.out.lt).lt)
          have HY := hid hy
          clear hB NB S12 X1 c0 c1 c2 c3 c4 c5 c6 c7 c8 hy
          obtain ⟨⟨c0, c1, c2⟩, -⟩ := X2.out.cells
          have FIN : Hid (ab ≤ 0 → bc ≤ 0 → ac ≤ 0 ∧ (ac = 0 → ab = 0 ∧ bc = 0)) := TR.out
          go_upto_region 20 with fail
          have KC : Hid ((x = ⟨#[48]⟩ ∧ y = ⟨#[48]⟩ ∧ ab = 0) ∨ (A = B ∧ x = y ∧ ab = 0 ∧ x.toList ≠ [48]) ∨ (ab ≠ 0 ∧ x = ⟨#[48]⟩ ∧ y.toList ≠ [48]) ∨ (ab ≠ 0 ∧ x.toList ≠ [48] ∧ ¬ (A.neg = B.neg ∧ x.toList = y.toList ∧ A.e = B.e))) := by
            have sx : x.toList = [48] ↔ A.ds = [48] := by
              have := HX.out.eq (t := ⟨#[48]⟩) (ys := [48]) rfl
              rw [str48] at this
              by_cases c : A.ds = [48]
              · rw [decide_eq_true c] at this; simpa [c] using this
              · rw [decide_eq_false c] at this; simpa [c] using this
            have sy : y.toList = [48] ↔ B.ds = [48] := by
              have := HY.out.eq (t := ⟨#[48]⟩) (ys := [48]) rfl
              rw [str48] at this
              by_cases c : B.ds = [48]
              · rw [decide_eq_true c] at this; simpa [c] using this
              · rw [decide_eq_false c] at this; simpa [c] using this
            have sxy : x.toList = y.toList ↔ A.ds = B.ds := by
              have := HX.out.eq HY.out
              by_cases c : A.ds = B.ds
              · rw [decide_eq_true c] at this; simpa [c] using this
              · rw [decide_eq_false c] at this; simpa [c] using this
            by_cases k1 : A.ds = [48]
            · by_cases k2 : B.ds = [48]
              · exact .inl ⟨HX.out.inj (by rw [k1]; rfl), HY.out.inj (by rw [k2]; rfl), ZE.out.2 (.inr ⟨k1, k2⟩)⟩
              · refine .inr (.inr (.inl ⟨fun c => ?_, HX.out.inj (by rw [k1]; rfl), fun c => k2 (sy.1 c)⟩))
                rcases ZE.out.1 c with h | h
                · exact k2 (by rw [← h]; exact k1)
                · exact k2 h.2
            · by_cases k2 : A = B
              · refine .inr (.inl ⟨k2, ?_, ZE.out.2 (.inl k2), fun c => k1 (sx.1 c)⟩)
                have hy := HY.out
                rw [← k2] at hy
                exact HX.out.inj hy
              · refine .inr (.inr (.inr ⟨fun c => ?_, fun c => k1 (sx.1 c), fun ⟨c1, c2, c3⟩ => k2 ?_⟩))
                · rcases ZE.out.1 c with h | h
                  · exact k2 h
                  · exact k1 h.1
                · have := sxy.1 c2
                  cases A; cases B; simp_all
          have TC : (0 < ab) ∨ (ab ≤ 0 ∧ 0 < bc) ∨ (ab ≤ 0 ∧ bc ≤ 0 ∧ ac < 0 ∧ (ac == 0) = false) ∨ (ab = 0 ∧ bc = 0 ∧ ac = 0) := by
            have f := FIN.out
            rcases Int.lt_or_le 0 ab with h | h
            · exact .inl h
            · rcases Int.lt_or_le 0 bc with h' | h'
              · exact .inr (.inl ⟨h, h'⟩)
              · obtain ⟨f1, f2⟩ := f h h'
                by_cases c : ac = 0
                · exact .inr (.inr (.inr ⟨(f2 c).1, (f2 c).2, c⟩))
                · exact .inr (.inr (.inl ⟨h, h', by omega, by rw [beq_eq_false_iff_ne]; exact c⟩))
          clear FIN TR ZE
          rcases TC with h | ⟨h, h'⟩ | ⟨h, h', h2, h3⟩ | ⟨h, h', h2⟩
          · go_upto_region 22 with fail
            rcases KC.out with k | k | k | k
            · obtain ⟨k1, k2, k3⟩ := k
              (exfalso; omega)
            · obtain ⟨k1, k2, k3, k4⟩ := k
              (exfalso; omega)
            · obtain ⟨k1, k2, k3⟩ := k
              subst k2
              have q2 : (y.toList == [48]) = false := by rw [beq_eq_false_iff_ne]; exact k3
              have q3 : ¬ [48] = y.toList := fun c => k3 c.symm
              have r0 : (ab == 0) = false := by rw [beq_eq_false_iff_ne]; exact k1
              go_wp2_with fail
              all_goals (go_ret; exact ⟨rfl, D13.out⟩)
            · obtain ⟨k1, k2, k3⟩ := k
              have q2 : (x.toList == [48]) = false := by rw [beq_eq_false_iff_ne]; exact k2
              have r0 : (ab == 0) = false := by rw [beq_eq_false_iff_ne]; exact k1
              replace k3 := hid k3
              go_wp2_with fail
              all_goals first | (exfalso; exact k3.out ⟨by assumption, by assumption, by assumption⟩) | (go_ret; exact ⟨rfl, D13.out⟩)
          · go_upto_region 22 with fail
            rcases KC.out with k | k | k | k
            · obtain ⟨k1, k2, k3⟩ := k
              subst k1 k2 k3
              go_wp2_with fail
              all_goals (go_ret; exact ⟨rfl, D13.out⟩)
            · obtain ⟨k1, k2, k3, k4⟩ := k
              subst k1 k2 k3
              have q2 : (x.toList == [48]) = false := by rw [beq_eq_false_iff_ne]; exact k4
              go_wp2_with fail
              all_goals (go_ret; exact ⟨rfl, D13.out⟩)
            · obtain ⟨k1, k2, k3⟩ := k
              subst k2
              have q2 : (y.toList == [48]) = false := by rw [beq_eq_false_iff_ne]; exact k3
              have q3 : ¬ [48] = y.toList := fun c => k3 c.symm
              have r0 : (ab == 0) = false := by rw [beq_eq_false_iff_ne]; exact k1
              go_wp2_with fail
              all_goals (go_ret; exact ⟨rfl, D13.out⟩)
            · obtain ⟨k1, k2, k3⟩ := k
              have q2 : (x.toList == [48]) = false := by rw [beq_eq_false_iff_ne]; exact k2
              have r0 : (ab == 0) = false := by rw [beq_eq_false_iff_ne]; exact k1
              replace k3 := hid k3
              go_wp2_with fail
              all_goals first | (exfalso; exact k3.out ⟨by assumption, by assumption, by assumption⟩) | (go_ret; exact ⟨rfl, D13.out⟩)
          · go_upto_region 22 with fail
            rcases KC.out with k | k | k | k
            · obtain ⟨k1, k2, k3⟩ := k
              subst k1 k2 k3
              go_wp2_with fail
              all_goals (go_ret; exact ⟨rfl, D13.out⟩)
            · obtain ⟨k1, k2, k3, k4⟩ := k
              subst k1 k2 k3
              have q2 : (x.toList == [48]) = false := by rw [beq_eq_false_iff_ne]; exact k4
              go_wp2_with fail
              all_goals (go_ret; exact ⟨rfl, D13.out⟩)
            · obtain ⟨k1, k2, k3⟩ := k
              subst k2
              have q2 : (y.toList == [48]) = false := by rw [beq_eq_false_iff_ne]; exact k3
              have q3 : ¬ [48] = y.toList := fun c => k3 c.symm
              have r0 : (ab == 0) = false := by rw [beq_eq_false_iff_ne]; exact k1
              go_wp2_with fail
              all_goals (go_ret; exact ⟨rfl, D13.out⟩)
            · obtain ⟨k1, k2, k3⟩ := k
              have q2 : (x.toList == [48]) = false := by rw [beq_eq_false_iff_ne]; exact k2
              have r0 : (ab == 0) = false := by rw [beq_eq_false_iff_ne]; exact k1
              replace k3 := hid k3
              go_wp2_with fail
              all_goals first | (exfalso; exact k3.out ⟨by assumption, by assumption, by assumption⟩) | (go_ret; exact ⟨rfl, D13.out⟩)
          · subst h' h2
            go_upto_region 22 with fail
            rcases KC.out with k | k | k | k
            · obtain ⟨k1, k2, k3⟩ := k
              subst k1 k2 k3
              go_wp2_with fail
              all_goals (go_ret; exact ⟨rfl, D13.out⟩)
            · obtain ⟨k1, k2, k3, k4⟩ := k
              subst k1 k2 k3
              have q2 : (x.toList == [48]) = false := by rw [beq_eq_false_iff_ne]; exact k4
              go_wp2_with fail
              all_goals (go_ret; exact ⟨rfl, D13.out⟩)
            · obtain ⟨k1, k2, k3⟩ := k
              (exfalso; omega)
            · obtain ⟨k1, k2, k3⟩ := k
              (exfalso; omega)
        · have HN : Hid (¬ (ea < 576460752303423488 ∧ eb < 576460752303423488 ∧ ec < 576460752303423488 ∧ -576460752303423488 < ea ∧ -576460752303423488 < eb ∧ -576460752303423488 < ec)) := hall
          clear hall
          rcases Int.lt_or_le (-576460752303423488) ec with hc | hc
          · have hr : decide (-576460752303423488 < ec) = true := decide_eq_true hc
            go_wp2_with fail
            all_goals first | (go_ret; exact ⟨rfl, S4.out.1⟩) | (exact absurd (show ea < 576460752303423488 ∧ eb < 576460752303423488 ∧ ec < 576460752303423488 ∧ -576460752303423488 < ea ∧ -576460752303423488 < eb ∧ -576460752303423488 < ec by refine ⟨?_, ?_, ?_, ?_, ?_, ?_⟩ <;> omega) HN.out)
          · have hr : decide (-576460752303423488 < ec) = false := decide_eq_false (by omega)
            have hr2 : ¬ (-576460752303423488 < ec) := by omega
            go_wp2_with fail
            all_goals (go_ret; exact ⟨rfl, S4.out.1⟩)
end Go.Proofs.YtjghlpkjbfaoiaaDoor
