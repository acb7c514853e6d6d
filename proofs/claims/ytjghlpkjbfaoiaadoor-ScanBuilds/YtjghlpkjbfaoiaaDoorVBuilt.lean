/-
  law08 (ScanBuilds): built.
-/
import Derived.Test.YtjghlpkjbfaoiaaDoorVParts1
import Derived.Test.YtjghlpkjbfaoiaaDoorVMade
namespace Go.Proofs.YtjghlpkjbfaoiaaDoor
open Go Go.RowKit Go.Deep

/-- The nine fields of a Parts, in a box. -/
def Row9 (w : World) (b : Nat) (v0 v1 v2 v3 v4 v5 v6 v7 v8 : Value) : Prop := w.heap[b]? = some (.cells #[v0, v1, v2, v3, v4, v5, v6, v7, v8] 39 (0, 0))
theorem Row9.new (w : World) (v0 v1 v2 v3 v4 v5 v6 v7 v8 : Value) : Row9 (w.alloc (.cells #[v0, v1, v2, v3, v4, v5, v6, v7, v8] 39)) w.heap.size v0 v1 v2 v3 v4 v5 v6 v7 v8 := heap_alloc_new _ _
theorem Row9.lt {w : World} {b : Nat} {v0 v1 v2 v3 v4 v5 v6 v7 v8 : Value} (h : Row9 w b v0 v1 v2 v3 v4 v5 v6 v7 v8) : b < w.heap.size := by
  rcases Nat.lt_or_ge b w.heap.size with hl | hl
  · exact hl
  · simp [Row9, Array.getElem?_eq_none hl] at h
theorem Row9.below {B : Nat} {w w' : World} {b : Nat} {v0 v1 v2 v3 v4 v5 v6 v7 v8 : Value} (h : Row9 w b v0 v1 v2 v3 v4 v5 v6 v7 v8) (hB : Below B w w') (hb : b < B) : Row9 w' b v0 v1 v2 v3 v4 v5 v6 v7 v8 := by
  simp only [Row9] at *
  rw [hB.block b hb]; exact h
/-- The box is there. -/
def PB (w wx : World) (v0 v1 v2 v3 v4 v5 v6 v7 v8 : Value) : Prop := Below w.heap.size w wx ∧ Row9 wx w.heap.size v0 v1 v2 v3 v4 v5 v6 v7 v8
theorem PB.new (w : World) (v0 v1 v2 v3 v4 v5 v6 v7 v8 : Value) : PB w (w.alloc (.cells #[v0, v1, v2, v3, v4, v5, v6, v7, v8] 39)) v0 v1 v2 v3 v4 v5 v6 v7 v8 := ⟨alloc_b _ _, Row9.new _ _ _ _ _ _ _ _ _ _⟩
theorem PB.on {w wx w' : World} {v0 v1 v2 v3 v4 v5 v6 v7 v8 : Value} (h : PB w wx v0 v1 v2 v3 v4 v5 v6 v7 v8) (k : Below wx.heap.size wx w') : PB w w' v0 v1 v2 v3 v4 v5 v6 v7 v8 := ⟨below_on h.1 k, h.2.below k h.2.lt⟩
theorem PB.drew {w wx : World} {v0 v1 v2 v3 v4 v5 v6 v7 v8 : Value} (h : PB w wx v0 v1 v2 v3 v4 v5 v6 v7 v8) : PB w wx.drew v0 v1 v2 v3 v4 v5 v6 v7 v8 := h.on (below_drewN (Below.refl _ _) 1)
theorem PB.bel {w wx : World} {v0 v1 v2 v3 v4 v5 v6 v7 v8 : Value} (h : PB w wx v0 v1 v2 v3 v4 v5 v6 v7 v8) : Below w.heap.size w wx := h.1
def Nine (wx : World) (b : Nat) (v0 v1 v2 v3 v4 v5 v6 v7 v8 : Value) : Prop := wx.cell? ⟨b, 0, none⟩ = some v0 ∧ wx.cell? ⟨b, 1, none⟩ = some v1 ∧ wx.cell? ⟨b, 2, none⟩ = some v2 ∧ wx.cell? ⟨b, 3, none⟩ = some v3 ∧ wx.cell? ⟨b, 4, none⟩ = some v4 ∧ wx.cell? ⟨b, 5, none⟩ = some v5 ∧ wx.cell? ⟨b, 6, none⟩ = some v6 ∧ wx.cell? ⟨b, 7, none⟩ = some v7 ∧ wx.cell? ⟨b, 8, none⟩ = some v8
theorem Row9.nine {w : World} {b : Nat} {v0 v1 v2 v3 v4 v5 v6 v7 v8 : Value} (h : Row9 w b v0 v1 v2 v3 v4 v5 v6 v7 v8) : Nine w b v0 v1 v2 v3 v4 v5 v6 v7 v8 := by
  simp only [Row9] at h
  refine ⟨?_, ?_, ?_, ?_, ?_, ?_, ?_, ?_, ?_⟩ <;> simp [World.cell?, h]
theorem PB.flat {w wx : World} {v0 v1 v2 v3 v4 v5 v6 v7 v8 : Value} (h : PB w wx v0 v1 v2 v3 v4 v5 v6 v7 v8) : wx.cell? ⟨w.heap.size, 0, none⟩ = some v0 ∧ wx.cell? ⟨w.heap.size, 1, none⟩ = some v1 ∧ wx.cell? ⟨w.heap.size, 2, none⟩ = some v2 ∧ wx.cell? ⟨w.heap.size, 3, none⟩ = some v3 ∧ wx.cell? ⟨w.heap.size, 4, none⟩ = some v4 ∧ wx.cell? ⟨w.heap.size, 5, none⟩ = some v5 ∧ wx.cell? ⟨w.heap.size, 6, none⟩ = some v6 ∧ wx.cell? ⟨w.heap.size, 7, none⟩ = some v7 ∧ wx.cell? ⟨w.heap.size, 8, none⟩ = some v8 := h.2.nine

theorem results_tmp4 {fn : Func} {t u v x : Tmp} (h : fn.results = #[.tmp t, .tmp u, .tmp v, .tmp x]) (tmps : Array Value) (P : Program) (w : World) :
    (results fn tmps).run P w = .ok (.tuple #[tmps.getD t undef, tmps.getD u undef, tmps.getD v undef, tmps.getD x undef]) w := by
  simp [results, h]

def elOf (l : Int) : Option Int := if l = 1 then some 101 else if l = 2 then some 69 else none
/-- What built tells. -/
def Built (n : Int) (A B : List Int) (pt : Bool) (L m E : Int) (e : Ending) : Prop :=
  e = .returned (.tuple #[.string ⟨#[]⟩, .string ⟨#[]⟩, .int .i64 0, .bool false]) ∨
  ∃ s t, e = .returned (.tuple #[.string s, .string t, .int .i64 (Sc.exS (elOf L) m E.toNat - ((if pt = true then B else []).length : Int)), .bool true]) ∧
    Str s (Sc.sgT n ++ A ++ ((if pt = true then 46 :: B else []) ++ Sc.exL (elOf L) m E.toNat)) ∧ Str t (A ++ (if pt = true then B else [])) ∧ A.length + (if pt = true then B.length else 0) ≠ 0

set_option maxRecDepth 100000 in
set_option maxHeartbeats 4000000 in
theorem built_any (v0 : Value) (n : Int) (a1 : Option Addr) (l1 c1 : Nat) (pt : Bool) (a2 : Option Addr) (l2 c2 : Nat) (L m E : Int) (v8 : Value) (za zb : List Int) (w : World)
    (hl1 : za.length = l1) (hl2 : zb.length = l2) (hm1 : l1 ≤ 140737488351232) (hm2 : l2 ≤ 140737488351232) (hp1 : Bys w a1 za) (hp2 : Bys w a2 zb) (hz1 : ∀ z ∈ za, 0 ≤ z ∧ z < 256) (hz2 : ∀ z ∈ zb, 0 ≤ z ∧ z < 256) (hE : E ≤ 9223372036854775807) :
    Calls Tryd.prog 17 #[.agg #[v0, .int .i64 n, .slice a1 l1 c1, .bool pt, .slice a2 l2 c2, .int .i64 L, .int .i64 m, .int .i64 E, v8]] w fun e w' => Built n (za.map fig) (zb.map fig) pt L m E e ∧ Below w.heap.size w w' := by
  have SG := hid (fun wx => lsign_any n wx)
  have FA := hid (fun wx (hx : Below w.heap.size w wx) => figures_any a1 l1 c1 za wx hl1 hm1 (hp1.below hx) hz1)
  have FB := hid (fun wx (hx : Below w.heap.size w wx) => figures_any a2 l2 c2 zb wx hl2 hm2 (hp2.below hx) hz2)
  have Z := hid (PB.new w v0 (.int .i64 n) (.slice a1 l1 c1) (.bool pt) (.slice a2 l2 c2) (.int .i64 L) (.int .i64 m) (.int .i64 E) v8)
  have LS : (sgL n).length ≤ 1 := by unfold sgL; split; (simp); split <;> simp
  have LA : (za.map fig).length = l1 := by rw [List.length_map]; exact hl1
  have LB : (zb.map fig).length = l2 := by rw [List.length_map]; exact hl2
  have sgE : sgL n = Sc.sgT n := rfl
  generalize za.map fig = A at *
  generalize zb.map fig = B at *
  obtain ⟨ls, hls⟩ : ∃ ls, (sgL n).length = ls := ⟨_, rfl⟩
  rw [hls] at LS
  have q1 : ¬ (9223372036854775807 < ls + l1) := by omega
  clear hp1 hp2 hz1 hz2 hl1 hl2
  go_enter Tryd.func17, Tryd.ntmps17
  go_upto_region 2 with fail
  generalize w.alloc (.cells #[v0, .int .i64 n, .slice a1 l1 c1, .bool pt, .slice a2 l2 c2, .int .i64 L, .int .i64 m, .int .i64 E, v8] 39) = w0 at *
  have T1 := hid Z.out.drew
  go_region_held3 (fun wx => wx.cell? ⟨w.heap.size, 1, none⟩ = some (.int .i64 n) ∧ wx.cell? ⟨w.heap.size, 2, none⟩ = some (.slice a1 l1 c1)) (first | (with_reducible exact ⟨T3.out.flat.2.1, T3.out.flat.2.2.1⟩) | (with_reducible exact ⟨T1.out.flat.2.1, T1.out.flat.2.2.1⟩)) (first
    | (go_at_call 34; with_reducible refine (SG.out _).mono ?_; rintro e wz ⟨⟨s1, rfl, hs1⟩, hwn⟩; subst hwn; have S1 := hid hs1; have z1 := hs1.size; rw [hls] at z1; clear hs1)
    | (go_at_call 35; with_reducible refine (FA.out _ T1.out.bel).mono ?_; rintro e wn ⟨⟨s2, rfl, hs2⟩, hB⟩; have S2 := hid hs2; have z2 := hs2.size; rw [LA] at z2; have T3 := hid (T1.out.on hB); clear hs2 hB))
  -- THE WAYS
  cases pt with
  | false =>
    obtain ⟨X, hX⟩ : ∃ X, s1 ++ s2 = X := ⟨_, rfl⟩
    obtain ⟨nx, hnx⟩ : ∃ nx, ls + l1 = nx := ⟨_, rfl⟩
    have zX : X.size = nx := by rw [← hX, ByteArray.size_append, z1, z2, hnx]
    obtain ⟨xs0, hxs0⟩ : ∃ xs0, Sc.sgT n ++ A = xs0 := ⟨_, rfl⟩
    have XS : Hid (Str X xs0) := by show Str _ _; rw [← hX, ← hxs0]; exact S1.out.append S2.out
    have T2 := hid T3.out
    have NB : Hid (Built n A B false L m E (.returned (.tuple #[.string ⟨#[]⟩, .string ⟨#[]⟩, .int .i64 0, .bool false]))) := .inl rfl
    have FF : Hid (∀ (X' t : ByteArray) (e : Int), Str X' (xs0 ++ Sc.exL (elOf L) m E.toNat) → Str t A → e = Sc.exS (elOf L) m E.toNat - 0 → l1 + 0 ≠ 0 → Built n A B false L m E (.returned (.tuple #[.string X', .string (t ++ ⟨#[]⟩), .int .i64 e, .bool true]))) := fun X' t e g1 g2 g3 g4 => by
      refine .inr ⟨X', _, ?_, ?_, by simpa using g2.append str_nil0, ?_⟩
      · rw [g3]; simp
      · rw [← hxs0] at g1; simpa using g1
      · simp [LA]; omega
    rw [hX]
    clear hX S1 S2 z1 z2 T3 T1 Z FB hxs0 SG
    by_cases h0 : l1 + 0 = 0
    · obtain ⟨f0, f1, f2, f3, f4, f5, f6, f7, f8⟩ := T2.out.flat
      have hi0 : (l1 : Int) = 0 := by omega
      clear h0
      go_wp2_with fail
      (try simp only [Exit.inBlock, Exit.then])
      refine bodyPost_ret (results_tmp4 rfl _ _ _) rfl ?_
      exact ⟨NB.out, T2.out.bel⟩
    · have NZ := hid h0
      have hi0 : ¬ (l1 : Int) = 0 := by omega
      have hi1 : ((l1 : Int) == 0) = false := by rw [beq_eq_false_iff_ne]; exact hi0
      clear h0
      by_cases hL : L = 1 ∨ L = 2
      · by_cases hE0 : E < 0
        · obtain ⟨f0, f1, f2, f3, f4, f5, f6, f7, f8⟩ := T2.out.flat
          rcases hL with rfl | rfl
          all_goals
            go_wp2_with fail
            (try simp only [Exit.inBlock, Exit.then])
            refine bodyPost_ret (results_tmp4 rfl _ _ _) rfl ?_
            exact ⟨NB.out, T2.out.bel⟩
        · obtain ⟨u, hu⟩ : ∃ u : Nat, E = (u : Int) := ⟨E.toNat, by omega⟩
          subst hu
          have NU := hid (fun wx => lnumber_any u wx (by omega))
          have SM := hid (fun wx => lsign_any m wx)
          obtain ⟨lm, hlm⟩ : ∃ lm, (sgL m).length = lm := ⟨_, rfl⟩
          have LM : lm ≤ 1 := by rw [← hlm]; unfold sgL; split; (simp); split <;> simp
          obtain ⟨ln, hln⟩ : ∃ ln, (Sc.dl u).length = ln := ⟨_, rfl⟩
          have LN : ln ≤ 20 := by rw [← hln]; have := dl_len2 18 u (by omega); omega
          have zc : (⟨#[101, 69]⟩ : ByteArray).size = 2 := rfl
          have sx1 : (⟨#[101, 69]⟩ : ByteArray).extract 0 1 = ⟨#[101]⟩ := rfl
          have sx2 : (⟨#[101, 69]⟩ : ByteArray).extract 1 2 = ⟨#[69]⟩ := rfl
          have r1 : ¬ (9223372036854775807 < nx + 1) := by omega
          have r2 : ¬ (9223372036854775807 < nx + 1 + lm) := by omega
          have r3 : ¬ (9223372036854775807 < nx + 1 + lm + ln) := by omega
          obtain ⟨f0, f1, f2, f3, f4, f5, f6, f7, f8⟩ := T2.out.flat
          rcases hL with rfl | rfl
          · go_upto_region 12 with fail
            obtain ⟨kk, k, hkk, hk1⟩ : ∃ kk k : Nat, Hid ((1 : Int) = (kk : Int)) ∧ Hid (kk = 1 ∧ k = 0) := ⟨1, 0, rfl, rfl, rfl⟩
            have U1 : Hid (PB w wn.drew v0 (.int .i64 n) (.slice a1 l1 c1) (.bool false) (.slice a2 l2 c2) (.int .i64 (kk : Int)) (.int .i64 m) (.int .i64 (u : Int)) v8) := by
              show PB _ _ _ _ _ _ _ _ _ _ _
              rw [← hkk.out]; exact T2.out.drew
            have hk2 : (kk : Int) - 1 = (k : Int) := by have := hk1.out; omega
            have WK : IntKind.i64.wrap ((kk : Int) - 1) = (k : Int) := by rw [IntKind.wrap_i64]; have := hk1.out; omega
            have b0 : (0 : Int) ≤ (k : Int) := by omega
            have b1 : (k : Int) ≤ (kk : Int) := by have := hk1.out; omega
            have b2 : (kk : Int) ≤ 2 := by have := hk1.out; omega
            have sx : (⟨#[101, 69]⟩ : ByteArray).extract k kk = ⟨#[101]⟩ := by rw [hk1.out.1, hk1.out.2]; rfl
            have SLF : ∀ wx : World, (Instr.slice 9 (.string ⟨#[101, 69]⟩) (some (.int .i64 (k : Int))) (some (.int .i64 (kk : Int))) none).run Tryd.prog wx = .ok (.string ⟨#[101]⟩) wx := fun wx => by
              have := run_slice_string (P := Tryd.prog) wx 9 ⟨#[101, 69]⟩ .i64 .i64 (k : Int) (kk : Int) Tryd.underlying9 (by omega) (by omega) (by rw [zc]; omega)
              rw [show (k : Int).toNat = k by omega, show (kk : Int).toNat = kk by omega, sx] at this
              exact this
            have WS : IntKind.i64.wrap (k : Int) = (k : Int) := by rw [IntKind.wrap_i64]; omega
            have b3 : (0 : Int) ≤ (kk : Int) := by omega
            have b4 : k ≤ kk := by omega
            have b5 : kk ≤ 2 := by omega
            clear f0 f1 f2 f3 f4 f5 f6 f7 f8 sx1 sx2
            go_region_held3 (fun wx => wx.cell? ⟨w.heap.size, 5, none⟩ = some (.int .i64 (kk : Int)) ∧ wx.cell? ⟨w.heap.size, 6, none⟩ = some (.int .i64 m) ∧ wx.cell? ⟨w.heap.size, 7, none⟩ = some (.int .i64 (u : Int))) (first | (with_reducible exact ⟨U3.out.flat.2.2.2.2.2.1, U3.out.flat.2.2.2.2.2.2.1, U3.out.flat.2.2.2.2.2.2.2.1⟩) | (with_reducible exact ⟨U1.out.flat.2.2.2.2.2.1, U1.out.flat.2.2.2.2.2.2.1, U1.out.flat.2.2.2.2.2.2.2.1⟩)) (first
              | (go_at_call 34; with_reducible refine (SM.out _).mono ?_; rintro e wz ⟨⟨s5, rfl, hs5⟩, hwn⟩; subst hwn; have S5 := hid hs5; have z5 := hs5.size; rw [hlm] at z5; clear hs5)
              | (go_at_call 36; with_reducible refine (NU.out _).mono ?_; rintro e wm ⟨⟨s6, rfl, hs6⟩, hB⟩; have S6 := hid hs6; have z6 := hs6.size; rw [hln] at z6; have U3 := hid (U1.out.on hB); clear hs6 hB))
            have EL : Hid (elOf 1 = some 101) := rfl
            have XT : Hid (Str (X ++ ⟨#[101]⟩ ++ s5 ++ s6) (xs0 ++ Sc.exL (elOf 1) m (u : Int).toNat)) := by
              show Str _ _
              have := ((XS.out.append (show Str ⟨#[101]⟩ [101] from rfl)).append S5.out).append S6.out
              rw [EL.out]
              simpa [Sc.exL, sgL, Sc.sgT] using this
            have c0 := U3.out
            clear NU SM U1
            by_cases hbig : 1000000000000000 < (u : Int)
            · by_cases hm2 : m = 2
              · subst hm2
                have FA2 := hid (FA.out _ U3.out.bel)
                clear FA
                obtain ⟨f0, f1, f2, f3, f4, f5, f6, f7, f8⟩ := U3.out.flat
                go_wp2_with fail
                refine FA2.out.mono ?_
                rintro e w5 ⟨⟨s9, rfl, hs9⟩, hB⟩
                have S9 := hid hs9
                have z9 := hs9.size
                rw [LA] at z9
                have T9 := hid (U3.out.on hB)
                clear hs9 hB FA2
                go_wp2_with fail
                (try simp only [Exit.inBlock, Exit.then])
                refine bodyPost_ret (results_tmp4 rfl _ _ _) rfl ?_
                exact ⟨FF.out _ _ _ XT.out S9.out (by rw [EL.out]; simp [Sc.exS]; try omega) NZ.out, T9.out.bel⟩
              · have hm3 : (m == 2) = false := by rw [beq_eq_false_iff_ne]; exact hm2
                have FA2 := hid (FA.out _ U3.out.bel)
                clear FA
                obtain ⟨f0, f1, f2, f3, f4, f5, f6, f7, f8⟩ := U3.out.flat
                go_wp2_with fail
                refine FA2.out.mono ?_
                rintro e w5 ⟨⟨s9, rfl, hs9⟩, hB⟩
                have S9 := hid hs9
                have z9 := hs9.size
                rw [LA] at z9
                have T9 := hid (U3.out.on hB)
                clear hs9 hB FA2
                go_wp2_with fail
                (try simp only [Exit.inBlock, Exit.then])
                refine bodyPost_ret (results_tmp4 rfl _ _ _) rfl ?_
                exact ⟨FF.out _ _ _ XT.out S9.out (by rw [EL.out]; simp [Sc.exS, hm2]; try omega) NZ.out, T9.out.bel⟩
            · by_cases hm2 : m = 2
              · subst hm2
                have FA2 := hid (FA.out _ U3.out.bel)
                clear FA
                obtain ⟨f0, f1, f2, f3, f4, f5, f6, f7, f8⟩ := U3.out.flat
                go_wp2_with fail
                refine FA2.out.mono ?_
                rintro e w5 ⟨⟨s9, rfl, hs9⟩, hB⟩
                have S9 := hid hs9
                have z9 := hs9.size
                rw [LA] at z9
                have T9 := hid (U3.out.on hB)
                clear hs9 hB FA2
                go_wp2_with fail
                (try simp only [Exit.inBlock, Exit.then])
                refine bodyPost_ret (results_tmp4 rfl _ _ _) rfl ?_
                exact ⟨FF.out _ _ _ XT.out S9.out (by rw [EL.out]; simp [Sc.exS]; try omega) NZ.out, T9.out.bel⟩
              · have hm3 : (m == 2) = false := by rw [beq_eq_false_iff_ne]; exact hm2
                have FA2 := hid (FA.out _ U3.out.bel)
                clear FA
                obtain ⟨f0, f1, f2, f3, f4, f5, f6, f7, f8⟩ := U3.out.flat
                go_wp2_with fail
                refine FA2.out.mono ?_
                rintro e w5 ⟨⟨s9, rfl, hs9⟩, hB⟩
                have S9 := hid hs9
                have z9 := hs9.size
                rw [LA] at z9
                have T9 := hid (U3.out.on hB)
                clear hs9 hB FA2
                go_wp2_with fail
                (try simp only [Exit.inBlock, Exit.then])
                refine bodyPost_ret (results_tmp4 rfl _ _ _) rfl ?_
                exact ⟨FF.out _ _ _ XT.out S9.out (by rw [EL.out]; simp [Sc.exS, hm2]; try omega) NZ.out, T9.out.bel⟩
          · go_upto_region 12 with fail
            obtain ⟨kk, k, hkk, hk1⟩ : ∃ kk k : Nat, Hid ((2 : Int) = (kk : Int)) ∧ Hid (kk = 2 ∧ k = 1) := ⟨2, 1, rfl, rfl, rfl⟩
            have U1 : Hid (PB w wn.drew v0 (.int .i64 n) (.slice a1 l1 c1) (.bool false) (.slice a2 l2 c2) (.int .i64 (kk : Int)) (.int .i64 m) (.int .i64 (u : Int)) v8) := by
              show PB _ _ _ _ _ _ _ _ _ _ _
              rw [← hkk.out]; exact T2.out.drew
            have hk2 : (kk : Int) - 1 = (k : Int) := by have := hk1.out; omega
            have WK : IntKind.i64.wrap ((kk : Int) - 1) = (k : Int) := by rw [IntKind.wrap_i64]; have := hk1.out; omega
            have b0 : (0 : Int) ≤ (k : Int) := by omega
            have b1 : (k : Int) ≤ (kk : Int) := by have := hk1.out; omega
            have b2 : (kk : Int) ≤ 2 := by have := hk1.out; omega
            have sx : (⟨#[101, 69]⟩ : ByteArray).extract k kk = ⟨#[69]⟩ := by rw [hk1.out.1, hk1.out.2]; rfl
            have SLF : ∀ wx : World, (Instr.slice 9 (.string ⟨#[101, 69]⟩) (some (.int .i64 (k : Int))) (some (.int .i64 (kk : Int))) none).run Tryd.prog wx = .ok (.string ⟨#[69]⟩) wx := fun wx => by
              have := run_slice_string (P := Tryd.prog) wx 9 ⟨#[101, 69]⟩ .i64 .i64 (k : Int) (kk : Int) Tryd.underlying9 (by omega) (by omega) (by rw [zc]; omega)
              rw [show (k : Int).toNat = k by omega, show (kk : Int).toNat = kk by omega, sx] at this
              exact this
            have WS : IntKind.i64.wrap (k : Int) = (k : Int) := by rw [IntKind.wrap_i64]; omega
            have b3 : (0 : Int) ≤ (kk : Int) := by omega
            have b4 : k ≤ kk := by omega
            have b5 : kk ≤ 2 := by omega
            clear f0 f1 f2 f3 f4 f5 f6 f7 f8 sx1 sx2
            go_region_held3 (fun wx => wx.cell? ⟨w.heap.size, 5, none⟩ = some (.int .i64 (kk : Int)) ∧ wx.cell? ⟨w.heap.size, 6, none⟩ = some (.int .i64 m) ∧ wx.cell? ⟨w.heap.size, 7, none⟩ = some (.int .i64 (u : Int))) (first | (with_reducible exact ⟨U3.out.flat.2.2.2.2.2.1, U3.out.flat.2.2.2.2.2.2.1, U3.out.flat.2.2.2.2.2.2.2.1⟩) | (with_reducible exact ⟨U1.out.flat.2.2.2.2.2.1, U1.out.flat.2.2.2.2.2.2.1, U1.out.flat.2.2.2.2.2.2.2.1⟩)) (first
              | (go_at_call 34; with_reducible refine (SM.out _).mono ?_; rintro e wz ⟨⟨s5, rfl, hs5⟩, hwn⟩; subst hwn; have S5 := hid hs5; have z5 := hs5.size; rw [hlm] at z5; clear hs5)
              | (go_at_call 36; with_reducible refine (NU.out _).mono ?_; rintro e wm ⟨⟨s6, rfl, hs6⟩, hB⟩; have S6 := hid hs6; have z6 := hs6.size; rw [hln] at z6; have U3 := hid (U1.out.on hB); clear hs6 hB))
            have EL : Hid (elOf 2 = some 69) := rfl
            have XT : Hid (Str (X ++ ⟨#[69]⟩ ++ s5 ++ s6) (xs0 ++ Sc.exL (elOf 2) m (u : Int).toNat)) := by
              show Str _ _
              have := ((XS.out.append (show Str ⟨#[69]⟩ [69] from rfl)).append S5.out).append S6.out
              rw [EL.out]
              simpa [Sc.exL, sgL, Sc.sgT] using this
            have c0 := U3.out
            clear NU SM U1
            by_cases hbig : 1000000000000000 < (u : Int)
            · by_cases hm2 : m = 2
              · subst hm2
                have FA2 := hid (FA.out _ U3.out.bel)
                clear FA
                obtain ⟨f0, f1, f2, f3, f4, f5, f6, f7, f8⟩ := U3.out.flat
                go_wp2_with fail
                refine FA2.out.mono ?_
                rintro e w5 ⟨⟨s9, rfl, hs9⟩, hB⟩
                have S9 := hid hs9
                have z9 := hs9.size
                rw [LA] at z9
                have T9 := hid (U3.out.on hB)
                clear hs9 hB FA2
                go_wp2_with fail
                (try simp only [Exit.inBlock, Exit.then])
                refine bodyPost_ret (results_tmp4 rfl _ _ _) rfl ?_
                exact ⟨FF.out _ _ _ XT.out S9.out (by rw [EL.out]; simp [Sc.exS]; try omega) NZ.out, T9.out.bel⟩
              · have hm3 : (m == 2) = false := by rw [beq_eq_false_iff_ne]; exact hm2
                have FA2 := hid (FA.out _ U3.out.bel)
                clear FA
                obtain ⟨f0, f1, f2, f3, f4, f5, f6, f7, f8⟩ := U3.out.flat
                go_wp2_with fail
                refine FA2.out.mono ?_
                rintro e w5 ⟨⟨s9, rfl, hs9⟩, hB⟩
                have S9 := hid hs9
                have z9 := hs9.size
                rw [LA] at z9
                have T9 := hid (U3.out.on hB)
                clear hs9 hB FA2
                go_wp2_with fail
                (try simp only [Exit.inBlock, Exit.then])
                refine bodyPost_ret (results_tmp4 rfl _ _ _) rfl ?_
                exact ⟨FF.out _ _ _ XT.out S9.out (by rw [EL.out]; simp [Sc.exS, hm2]; try omega) NZ.out, T9.out.bel⟩
            · by_cases hm2 : m = 2
              · subst hm2
                have FA2 := hid (FA.out _ U3.out.bel)
                clear FA
                obtain ⟨f0, f1, f2, f3, f4, f5, f6, f7, f8⟩ := U3.out.flat
                go_wp2_with fail
                refine FA2.out.mono ?_
                rintro e w5 ⟨⟨s9, rfl, hs9⟩, hB⟩
                have S9 := hid hs9
                have z9 := hs9.size
                rw [LA] at z9
                have T9 := hid (U3.out.on hB)
                clear hs9 hB FA2
                go_wp2_with fail
                (try simp only [Exit.inBlock, Exit.then])
                refine bodyPost_ret (results_tmp4 rfl _ _ _) rfl ?_
                exact ⟨FF.out _ _ _ XT.out S9.out (by rw [EL.out]; simp [Sc.exS]; try omega) NZ.out, T9.out.bel⟩
              · have hm3 : (m == 2) = false := by rw [beq_eq_false_iff_ne]; exact hm2
                have FA2 := hid (FA.out _ U3.out.bel)
                clear FA
                obtain ⟨f0, f1, f2, f3, f4, f5, f6, f7, f8⟩ := U3.out.flat
                go_wp2_with fail
                refine FA2.out.mono ?_
                rintro e w5 ⟨⟨s9, rfl, hs9⟩, hB⟩
                have S9 := hid hs9
                have z9 := hs9.size
                rw [LA] at z9
                have T9 := hid (U3.out.on hB)
                clear hs9 hB FA2
                go_wp2_with fail
                (try simp only [Exit.inBlock, Exit.then])
                refine bodyPost_ret (results_tmp4 rfl _ _ _) rfl ?_
                exact ⟨FF.out _ _ _ XT.out S9.out (by rw [EL.out]; simp [Sc.exS, hm2]; try omega) NZ.out, T9.out.bel⟩
      · have hL1 : ¬ L = 1 := fun c => hL (.inl c)
        have hL2 : ¬ L = 2 := fun c => hL (.inr c)
        have hL3 : (L == 1) = false := by rw [beq_eq_false_iff_ne]; exact hL1
        have hL4 : (L == 2) = false := by rw [beq_eq_false_iff_ne]; exact hL2
        clear hL
        have EL : Hid (elOf L = none) := by show _ = _; unfold elOf; rw [if_neg hL1, if_neg hL2]
        have FA2 := hid (FA.out _ T2.out.bel)
        clear FA
        obtain ⟨f0, f1, f2, f3, f4, f5, f6, f7, f8⟩ := T2.out.flat
        go_wp2_with fail
        refine FA2.out.mono ?_
        rintro e w5 ⟨⟨s9, rfl, hs9⟩, hB⟩
        have S9 := hid hs9
        have z9 := hs9.size
        rw [LA] at z9
        have T9 := hid (T2.out.on hB)
        clear hs9 hB FA2
        go_wp2_with fail
        (try simp only [Exit.inBlock, Exit.then])
        refine bodyPost_ret (results_tmp4 rfl _ _ _) rfl ?_
        exact ⟨FF.out _ _ _ (by rw [EL.out]; simpa [Sc.exL] using XS.out) S9.out (by rw [EL.out]; simp [Sc.exS]) NZ.out, T9.out.bel⟩
  | true =>
    obtain ⟨f0, f1, f2, f3, f4, f5, f6, f7, f8⟩ := T3.out.flat
    have FB2 := hid (FB.out _ T3.out.bel)
    have q2 : ¬ (9223372036854775807 < ls + l1 + 1) := by omega
    have q3 : ¬ (9223372036854775807 < ls + l1 + 1 + l2) := by omega
    go_wp2_with fail
    refine FB2.out.mono ?_
    rintro e w4 ⟨⟨s3, rfl, hs3⟩, hB⟩
    have S3 := hid hs3
    have z3 := hs3.size
    rw [LB] at z3
    have T2 := hid (T3.out.on hB)
    clear hs3 hB FB2 FB f0 f1 f2 f3 f4 f5 f6 f7 f8
    go_upto_region 6 with fail
    obtain ⟨X, hX⟩ : ∃ X, s1 ++ s2 ++ ⟨#[46]⟩ ++ s3 = X := ⟨_, rfl⟩
    obtain ⟨nx, hnx⟩ : ∃ nx, ls + l1 + 1 + l2 = nx := ⟨_, rfl⟩
    have zX : X.size = nx := by rw [← hX, ByteArray.size_append, ByteArray.size_append, ByteArray.size_append, z1, z2, z3, ← hnx]; rfl
    obtain ⟨xs0, hxs0⟩ : ∃ xs0, Sc.sgT n ++ A ++ (46 :: B) = xs0 := ⟨_, rfl⟩
    have XS : Hid (Str X xs0) := by
      show Str _ _
      rw [← hX, ← hxs0]
      have := ((S1.out.append S2.out).append (show Str ⟨#[46]⟩ [46] from rfl)).append S3.out
      simpa [sgL, Sc.sgT] using this
    have NB : Hid (Built n A B true L m E (.returned (.tuple #[.string ⟨#[]⟩, .string ⟨#[]⟩, .int .i64 0, .bool false]))) := .inl rfl
    have FF : Hid (∀ (X' t : ByteArray) (e : Int), Str X' (xs0 ++ Sc.exL (elOf L) m E.toNat) → Str t A → e = Sc.exS (elOf L) m E.toNat - (l2 : Int) → l1 + l2 ≠ 0 → Built n A B true L m E (.returned (.tuple #[.string X', .string (t ++ s3), .int .i64 e, .bool true]))) := fun X' t e g1 g2 g3 g4 => by
      refine .inr ⟨X', _, ?_, ?_, by simpa using g2.append S3.out, ?_⟩
      · rw [g3]; simp [LB]
      · rw [← hxs0] at g1; simpa using g1
      · simp [LA, LB]; omega
    rw [hX]
    clear hX S1 S2 z1 z2 T3 T1 Z hxs0 SG
    by_cases h0 : l1 + l2 = 0
    · obtain ⟨f0, f1, f2, f3, f4, f5, f6, f7, f8⟩ := T2.out.flat
      have hi0 : (l1 : Int) + (l2 : Int) = 0 := by omega
      clear h0
      go_wp2_with fail
      (try simp only [Exit.inBlock, Exit.then])
      refine bodyPost_ret (results_tmp4 rfl _ _ _) rfl ?_
      exact ⟨NB.out, T2.out.bel⟩
    · have NZ := hid h0
      have hi0 : ¬ (l1 : Int) + (l2 : Int) = 0 := by omega
      have hi1 : ((l1 : Int) + (l2 : Int) == 0) = false := by rw [beq_eq_false_iff_ne]; exact hi0
      clear h0
      by_cases hL : L = 1 ∨ L = 2
      · by_cases hE0 : E < 0
        · obtain ⟨f0, f1, f2, f3, f4, f5, f6, f7, f8⟩ := T2.out.flat
          rcases hL with rfl | rfl
          all_goals
            go_wp2_with fail
            (try simp only [Exit.inBlock, Exit.then])
            refine bodyPost_ret (results_tmp4 rfl _ _ _) rfl ?_
            exact ⟨NB.out, T2.out.bel⟩
        · obtain ⟨u, hu⟩ : ∃ u : Nat, E = (u : Int) := ⟨E.toNat, by omega⟩
          subst hu
          have NU := hid (fun wx => lnumber_any u wx (by omega))
          have SM := hid (fun wx => lsign_any m wx)
          obtain ⟨lm, hlm⟩ : ∃ lm, (sgL m).length = lm := ⟨_, rfl⟩
          have LM : lm ≤ 1 := by rw [← hlm]; unfold sgL; split; (simp); split <;> simp
          obtain ⟨ln, hln⟩ : ∃ ln, (Sc.dl u).length = ln := ⟨_, rfl⟩
          have LN : ln ≤ 20 := by rw [← hln]; have := dl_len2 18 u (by omega); omega
          have zc : (⟨#[101, 69]⟩ : ByteArray).size = 2 := rfl
          have sx1 : (⟨#[101, 69]⟩ : ByteArray).extract 0 1 = ⟨#[101]⟩ := rfl
          have sx2 : (⟨#[101, 69]⟩ : ByteArray).extract 1 2 = ⟨#[69]⟩ := rfl
          have r1 : ¬ (9223372036854775807 < nx + 1) := by omega
          have r2 : ¬ (9223372036854775807 < nx + 1 + lm) := by omega
          have r3 : ¬ (9223372036854775807 < nx + 1 + lm + ln) := by omega
          obtain ⟨f0, f1, f2, f3, f4, f5, f6, f7, f8⟩ := T2.out.flat
          rcases hL with rfl | rfl
          · go_upto_region 12 with fail
            obtain ⟨kk, k, hkk, hk1⟩ : ∃ kk k : Nat, Hid ((1 : Int) = (kk : Int)) ∧ Hid (kk = 1 ∧ k = 0) := ⟨1, 0, rfl, rfl, rfl⟩
            have U1 : Hid (PB w w4.drew v0 (.int .i64 n) (.slice a1 l1 c1) (.bool true) (.slice a2 l2 c2) (.int .i64 (kk : Int)) (.int .i64 m) (.int .i64 (u : Int)) v8) := by
              show PB _ _ _ _ _ _ _ _ _ _ _
              rw [← hkk.out]; exact T2.out.drew
            have hk2 : (kk : Int) - 1 = (k : Int) := by have := hk1.out; omega
            have WK : IntKind.i64.wrap ((kk : Int) - 1) = (k : Int) := by rw [IntKind.wrap_i64]; have := hk1.out; omega
            have b0 : (0 : Int) ≤ (k : Int) := by omega
            have b1 : (k : Int) ≤ (kk : Int) := by have := hk1.out; omega
            have b2 : (kk : Int) ≤ 2 := by have := hk1.out; omega
            have sx : (⟨#[101, 69]⟩ : ByteArray).extract k kk = ⟨#[101]⟩ := by rw [hk1.out.1, hk1.out.2]; rfl
            have SLF : ∀ wx : World, (Instr.slice 9 (.string ⟨#[101, 69]⟩) (some (.int .i64 (k : Int))) (some (.int .i64 (kk : Int))) none).run Tryd.prog wx = .ok (.string ⟨#[101]⟩) wx := fun wx => by
              have := run_slice_string (P := Tryd.prog) wx 9 ⟨#[101, 69]⟩ .i64 .i64 (k : Int) (kk : Int) Tryd.underlying9 (by omega) (by omega) (by rw [zc]; omega)
              rw [show (k : Int).toNat = k by omega, show (kk : Int).toNat = kk by omega, sx] at this
              exact this
            have WS : IntKind.i64.wrap (k : Int) = (k : Int) := by rw [IntKind.wrap_i64]; omega
            have b3 : (0 : Int) ≤ (kk : Int) := by omega
            have b4 : k ≤ kk := by omega
            have b5 : kk ≤ 2 := by omega
            clear f0 f1 f2 f3 f4 f5 f6 f7 f8 sx1 sx2
            go_region_held3 (fun wx => wx.cell? ⟨w.heap.size, 5, none⟩ = some (.int .i64 (kk : Int)) ∧ wx.cell? ⟨w.heap.size, 6, none⟩ = some (.int .i64 m) ∧ wx.cell? ⟨w.heap.size, 7, none⟩ = some (.int .i64 (u : Int))) (first | (with_reducible exact ⟨U3.out.flat.2.2.2.2.2.1, U3.out.flat.2.2.2.2.2.2.1, U3.out.flat.2.2.2.2.2.2.2.1⟩) | (with_reducible exact ⟨U1.out.flat.2.2.2.2.2.1, U1.out.flat.2.2.2.2.2.2.1, U1.out.flat.2.2.2.2.2.2.2.1⟩)) (first
              | (go_at_call 34; with_reducible refine (SM.out _).mono ?_; rintro e wz ⟨⟨s5, rfl, hs5⟩, hwn⟩; subst hwn; have S5 := hid hs5; have z5 := hs5.size; rw [hlm] at z5; clear hs5)
              | (go_at_call 36; with_reducible refine (NU.out _).mono ?_; rintro e wm ⟨⟨s6, rfl, hs6⟩, hB⟩; have S6 := hid hs6; have z6 := hs6.size; rw [hln] at z6; have U3 := hid (U1.out.on hB); clear hs6 hB))
            have EL : Hid (elOf 1 = some 101) := rfl
            have XT : Hid (Str (X ++ ⟨#[101]⟩ ++ s5 ++ s6) (xs0 ++ Sc.exL (elOf 1) m (u : Int).toNat)) := by
              show Str _ _
              have := ((XS.out.append (show Str ⟨#[101]⟩ [101] from rfl)).append S5.out).append S6.out
              rw [EL.out]
              simpa [Sc.exL, sgL, Sc.sgT] using this
            have c0 := U3.out
            clear NU SM U1
            by_cases hbig : 1000000000000000 < (u : Int)
            · by_cases hm2 : m = 2
              · subst hm2
                have FA2 := hid (FA.out _ U3.out.bel)
                clear FA
                obtain ⟨f0, f1, f2, f3, f4, f5, f6, f7, f8⟩ := U3.out.flat
                go_wp2_with fail
                refine FA2.out.mono ?_
                rintro e w5 ⟨⟨s9, rfl, hs9⟩, hB⟩
                have S9 := hid hs9
                have z9 := hs9.size
                rw [LA] at z9
                have T9 := hid (U3.out.on hB)
                clear hs9 hB FA2
                go_wp2_with fail
                (try simp only [Exit.inBlock, Exit.then])
                refine bodyPost_ret (results_tmp4 rfl _ _ _) rfl ?_
                exact ⟨FF.out _ _ _ XT.out S9.out (by rw [EL.out]; simp [Sc.exS]; try omega) NZ.out, T9.out.bel⟩
              · have hm3 : (m == 2) = false := by rw [beq_eq_false_iff_ne]; exact hm2
                have FA2 := hid (FA.out _ U3.out.bel)
                clear FA
                obtain ⟨f0, f1, f2, f3, f4, f5, f6, f7, f8⟩ := U3.out.flat
                go_wp2_with fail
                refine FA2.out.mono ?_
                rintro e w5 ⟨⟨s9, rfl, hs9⟩, hB⟩
                have S9 := hid hs9
                have z9 := hs9.size
                rw [LA] at z9
                have T9 := hid (U3.out.on hB)
                clear hs9 hB FA2
                go_wp2_with fail
                (try simp only [Exit.inBlock, Exit.then])
                refine bodyPost_ret (results_tmp4 rfl _ _ _) rfl ?_
                exact ⟨FF.out _ _ _ XT.out S9.out (by rw [EL.out]; simp [Sc.exS, hm2]; try omega) NZ.out, T9.out.bel⟩
            · by_cases hm2 : m = 2
              · subst hm2
                have FA2 := hid (FA.out _ U3.out.bel)
                clear FA
                obtain ⟨f0, f1, f2, f3, f4, f5, f6, f7, f8⟩ := U3.out.flat
                go_wp2_with fail
                refine FA2.out.mono ?_
                rintro e w5 ⟨⟨s9, rfl, hs9⟩, hB⟩
                have S9 := hid hs9
                have z9 := hs9.size
                rw [LA] at z9
                have T9 := hid (U3.out.on hB)
                clear hs9 hB FA2
                go_wp2_with fail
                (try simp only [Exit.inBlock, Exit.then])
                refine bodyPost_ret (results_tmp4 rfl _ _ _) rfl ?_
                exact ⟨FF.out _ _ _ XT.out S9.out (by rw [EL.out]; simp [Sc.exS]; try omega) NZ.out, T9.out.bel⟩
              · have hm3 : (m == 2) = false := by rw [beq_eq_false_iff_ne]; exact hm2
                have FA2 := hid (FA.out _ U3.out.bel)
                clear FA
                obtain ⟨f0, f1, f2, f3, f4, f5, f6, f7, f8⟩ := U3.out.flat
                go_wp2_with fail
                refine FA2.out.mono ?_
                rintro e w5 ⟨⟨s9, rfl, hs9⟩, hB⟩
                have S9 := hid hs9
                have z9 := hs9.size
                rw [LA] at z9
                have T9 := hid (U3.out.on hB)
                clear hs9 hB FA2
                go_wp2_with fail
                (try simp only [Exit.inBlock, Exit.then])
                refine bodyPost_ret (results_tmp4 rfl _ _ _) rfl ?_
                exact ⟨FF.out _ _ _ XT.out S9.out (by rw [EL.out]; simp [Sc.exS, hm2]; try omega) NZ.out, T9.out.bel⟩
          · go_upto_region 12 with fail
            obtain ⟨kk, k, hkk, hk1⟩ : ∃ kk k : Nat, Hid ((2 : Int) = (kk : Int)) ∧ Hid (kk = 2 ∧ k = 1) := ⟨2, 1, rfl, rfl, rfl⟩
            have U1 : Hid (PB w w4.drew v0 (.int .i64 n) (.slice a1 l1 c1) (.bool true) (.slice a2 l2 c2) (.int .i64 (kk : Int)) (.int .i64 m) (.int .i64 (u : Int)) v8) := by
              show PB _ _ _ _ _ _ _ _ _ _ _
              rw [← hkk.out]; exact T2.out.drew
            have hk2 : (kk : Int) - 1 = (k : Int) := by have := hk1.out; omega
            have WK : IntKind.i64.wrap ((kk : Int) - 1) = (k : Int) := by rw [IntKind.wrap_i64]; have := hk1.out; omega
            have b0 : (0 : Int) ≤ (k : Int) := by omega
            have b1 : (k : Int) ≤ (kk : Int) := by have := hk1.out; omega
            have b2 : (kk : Int) ≤ 2 := by have := hk1.out; omega
            have sx : (⟨#[101, 69]⟩ : ByteArray).extract k kk = ⟨#[69]⟩ := by rw [hk1.out.1, hk1.out.2]; rfl
            have SLF : ∀ wx : World, (Instr.slice 9 (.string ⟨#[101, 69]⟩) (some (.int .i64 (k : Int))) (some (.int .i64 (kk : Int))) none).run Tryd.prog wx = .ok (.string ⟨#[69]⟩) wx := fun wx => by
              have := run_slice_string (P := Tryd.prog) wx 9 ⟨#[101, 69]⟩ .i64 .i64 (k : Int) (kk : Int) Tryd.underlying9 (by omega) (by omega) (by rw [zc]; omega)
              rw [show (k : Int).toNat = k by omega, show (kk : Int).toNat = kk by omega, sx] at this
              exact this
            have WS : IntKind.i64.wrap (k : Int) = (k : Int) := by rw [IntKind.wrap_i64]; omega
            have b3 : (0 : Int) ≤ (kk : Int) := by omega
            have b4 : k ≤ kk := by omega
            have b5 : kk ≤ 2 := by omega
            clear f0 f1 f2 f3 f4 f5 f6 f7 f8 sx1 sx2
            go_region_held3 (fun wx => wx.cell? ⟨w.heap.size, 5, none⟩ = some (.int .i64 (kk : Int)) ∧ wx.cell? ⟨w.heap.size, 6, none⟩ = some (.int .i64 m) ∧ wx.cell? ⟨w.heap.size, 7, none⟩ = some (.int .i64 (u : Int))) (first | (with_reducible exact ⟨U3.out.flat.2.2.2.2.2.1, U3.out.flat.2.2.2.2.2.2.1, U3.out.flat.2.2.2.2.2.2.2.1⟩) | (with_reducible exact ⟨U1.out.flat.2.2.2.2.2.1, U1.out.flat.2.2.2.2.2.2.1, U1.out.flat.2.2.2.2.2.2.2.1⟩)) (first
              | (go_at_call 34; with_reducible refine (SM.out _).mono ?_; rintro e wz ⟨⟨s5, rfl, hs5⟩, hwn⟩; subst hwn; have S5 := hid hs5; have z5 := hs5.size; rw [hlm] at z5; clear hs5)
              | (go_at_call 36; with_reducible refine (NU.out _).mono ?_; rintro e wm ⟨⟨s6, rfl, hs6⟩, hB⟩; have S6 := hid hs6; have z6 := hs6.size; rw [hln] at z6; have U3 := hid (U1.out.on hB); clear hs6 hB))
            have EL : Hid (elOf 2 = some 69) := rfl
            have XT : Hid (Str (X ++ ⟨#[69]⟩ ++ s5 ++ s6) (xs0 ++ Sc.exL (elOf 2) m (u : Int).toNat)) := by
              show Str _ _
              have := ((XS.out.append (show Str ⟨#[69]⟩ [69] from rfl)).append S5.out).append S6.out
              rw [EL.out]
              simpa [Sc.exL, sgL, Sc.sgT] using this
            have c0 := U3.out
            clear NU SM U1
            by_cases hbig : 1000000000000000 < (u : Int)
            · by_cases hm2 : m = 2
              · subst hm2
                have FA2 := hid (FA.out _ U3.out.bel)
                clear FA
                obtain ⟨f0, f1, f2, f3, f4, f5, f6, f7, f8⟩ := U3.out.flat
                go_wp2_with fail
                refine FA2.out.mono ?_
                rintro e w5 ⟨⟨s9, rfl, hs9⟩, hB⟩
                have S9 := hid hs9
                have z9 := hs9.size
                rw [LA] at z9
                have T9 := hid (U3.out.on hB)
                clear hs9 hB FA2
                go_wp2_with fail
                (try simp only [Exit.inBlock, Exit.then])
                refine bodyPost_ret (results_tmp4 rfl _ _ _) rfl ?_
                exact ⟨FF.out _ _ _ XT.out S9.out (by rw [EL.out]; simp [Sc.exS]; try omega) NZ.out, T9.out.bel⟩
              · have hm3 : (m == 2) = false := by rw [beq_eq_false_iff_ne]; exact hm2
                have FA2 := hid (FA.out _ U3.out.bel)
                clear FA
                obtain ⟨f0, f1, f2, f3, f4, f5, f6, f7, f8⟩ := U3.out.flat
                go_wp2_with fail
                refine FA2.out.mono ?_
                rintro e w5 ⟨⟨s9, rfl, hs9⟩, hB⟩
                have S9 := hid hs9
                have z9 := hs9.size
                rw [LA] at z9
                have T9 := hid (U3.out.on hB)
                clear hs9 hB FA2
                go_wp2_with fail
                (try simp only [Exit.inBlock, Exit.then])
                refine bodyPost_ret (results_tmp4 rfl _ _ _) rfl ?_
                exact ⟨FF.out _ _ _ XT.out S9.out (by rw [EL.out]; simp [Sc.exS, hm2]; try omega) NZ.out, T9.out.bel⟩
            · by_cases hm2 : m = 2
              · subst hm2
                have FA2 := hid (FA.out _ U3.out.bel)
                clear FA
                obtain ⟨f0, f1, f2, f3, f4, f5, f6, f7, f8⟩ := U3.out.flat
                go_wp2_with fail
                refine FA2.out.mono ?_
                rintro e w5 ⟨⟨s9, rfl, hs9⟩, hB⟩
                have S9 := hid hs9
                have z9 := hs9.size
                rw [LA] at z9
                have T9 := hid (U3.out.on hB)
                clear hs9 hB FA2
                go_wp2_with fail
                (try simp only [Exit.inBlock, Exit.then])
                refine bodyPost_ret (results_tmp4 rfl _ _ _) rfl ?_
                exact ⟨FF.out _ _ _ XT.out S9.out (by rw [EL.out]; simp [Sc.exS]; try omega) NZ.out, T9.out.bel⟩
              · have hm3 : (m == 2) = false := by rw [beq_eq_false_iff_ne]; exact hm2
                have FA2 := hid (FA.out _ U3.out.bel)
                clear FA
                obtain ⟨f0, f1, f2, f3, f4, f5, f6, f7, f8⟩ := U3.out.flat
                go_wp2_with fail
                refine FA2.out.mono ?_
                rintro e w5 ⟨⟨s9, rfl, hs9⟩, hB⟩
                have S9 := hid hs9
                have z9 := hs9.size
                rw [LA] at z9
                have T9 := hid (U3.out.on hB)
                clear hs9 hB FA2
                go_wp2_with fail
                (try simp only [Exit.inBlock, Exit.then])
                refine bodyPost_ret (results_tmp4 rfl _ _ _) rfl ?_
                exact ⟨FF.out _ _ _ XT.out S9.out (by rw [EL.out]; simp [Sc.exS, hm2]; try omega) NZ.out, T9.out.bel⟩
      · have hL1 : ¬ L = 1 := fun c => hL (.inl c)
        have hL2 : ¬ L = 2 := fun c => hL (.inr c)
        have hL3 : (L == 1) = false := by rw [beq_eq_false_iff_ne]; exact hL1
        have hL4 : (L == 2) = false := by rw [beq_eq_false_iff_ne]; exact hL2
        clear hL
        have EL : Hid (elOf L = none) := by show _ = _; unfold elOf; rw [if_neg hL1, if_neg hL2]
        have FA2 := hid (FA.out _ T2.out.bel)
        clear FA
        obtain ⟨f0, f1, f2, f3, f4, f5, f6, f7, f8⟩ := T2.out.flat
        go_wp2_with fail
        refine FA2.out.mono ?_
        rintro e w5 ⟨⟨s9, rfl, hs9⟩, hB⟩
        have S9 := hid hs9
        have z9 := hs9.size
        rw [LA] at z9
        have T9 := hid (T2.out.on hB)
        clear hs9 hB FA2
        go_wp2_with fail
        (try simp only [Exit.inBlock, Exit.then])
        refine bodyPost_ret (results_tmp4 rfl _ _ _) rfl ?_
        exact ⟨FF.out _ _ _ (by rw [EL.out]; simpa [Sc.exL] using XS.out) S9.out (by rw [EL.out]; simp [Sc.exS]) NZ.out, T9.out.bel⟩
end Go.Proofs.YtjghlpkjbfaoiaaDoor
