/-
  code: Heights.
-/
import Derived.Test.YtnobafmleellhabDoorCdF
import Derived.Test.YtnobafmleellhabDoorCdD
namespace Go.Proofs.YtnobafmleellhabDoor
open Go Go.RowKit Go.Deep

namespace Cd
theorem gv_mem {hs hs' : List Int} {p : Nat} {h m : Int} (he : gv hs p h = some hs') (h1 : ∀ z ∈ hs, -1 ≤ z ∧ z ≤ m) (h2 : -1 ≤ h ∧ h ≤ m) : ∀ z ∈ hs', -1 ≤ z ∧ z ≤ m := by
  unfold gv at he
  by_cases a : hs.getD p 0 < 0
  · rw [if_pos a] at he
    rw [← Option.some.inj he]
    intro z hz
    rcases List.mem_or_eq_of_mem_set hz with y | y
    · exact h1 z y
    · rw [y]; exact h2
  · rw [if_neg a] at he
    by_cases b : hs.getD p 0 = h
    · rw [if_pos b] at he; rw [← Option.some.inj he]; exact h1
    · rw [if_neg b] at he; cases he
theorem ps_keeps {x : In} {i : Nat} {hs hs' : List Int} (he : ps x i hs = some hs') (hp : 0 ≤ pt x) (h1 : ∀ z ∈ hs, -1 ≤ z ∧ z ≤ 32768) : hs'.length = hs.length ∧ ∀ z ∈ hs', -1 ≤ z ∧ z ≤ 32768 := by
  obtain ⟨a, b, c⟩ := ps_some he
  have hv : -1 ≤ hs.getD i 0 - tk x + pt x ∧ hs.getD i 0 - tk x + pt x ≤ 32768 := by omega
  rcases c with ⟨_, _, q⟩ | ⟨_, _, q⟩ | ⟨_, _, h2, q1, q2⟩
  · exact ⟨gv_len q, gv_mem q h1 hv⟩
  · exact ⟨gv_len q, gv_mem q h1 hv⟩
  · exact ⟨(gv_len q2).trans (gv_len q1), gv_mem q2 (gv_mem q1 h1 hv) hv⟩
theorem bad_step {n N S : Nat} {l : List In} {i : Nat} {x : In} (hx : l[i]? = some x) : bad n N S (l.drop i) i = if rt n N S i x then bad n N S (l.drop (i + 1)) (i + 1) else some i := by
  obtain ⟨h, e⟩ := List.getElem?_eq_some_iff.1 hx
  rw [List.drop_eq_getElem_cons h, e, bad]
theorem bad_end {n N S : Nat} {l : List In} : bad n N S (l.drop l.length) l.length = none := by rw [List.drop_length, bad]
theorem run_skip {l : List In} {i : Nat} {x : In} {hs : List Int} (hx : l[i]? = some x) (h : hs.getD i 0 < 0) : run (l.drop i) i hs = run (l.drop (i + 1)) (i + 1) hs := by
  obtain ⟨h', e⟩ := List.getElem?_eq_some_iff.1 hx
  rw [List.drop_eq_getElem_cons h', e, run, if_pos h]
theorem run_no {l : List In} {i : Nat} {x : In} {hs : List Int} (hx : l[i]? = some x) (h : ¬ hs.getD i 0 < 0) (he : ps x i hs = none) : run (l.drop i) i hs = .inl i := by
  obtain ⟨h', e⟩ := List.getElem?_eq_some_iff.1 hx
  rw [List.drop_eq_getElem_cons h', e, run, if_neg h, he]
theorem run_ok {l : List In} {i : Nat} {x : In} {hs hs' : List Int} (hx : l[i]? = some x) (h : ¬ hs.getD i 0 < 0) (he : ps x i hs = some hs') : run (l.drop i) i hs = run (l.drop (i + 1)) (i + 1) hs' := by
  obtain ⟨h', e⟩ := List.getElem?_eq_some_iff.1 hx
  rw [List.drop_eq_getElem_cons h', e, run, if_neg h, he]
theorem h0_set (n : Nat) : (List.replicate (n + 1) (-1 : Int)).set 0 0 = h0 n := by rw [List.replicate_succ, List.set_cons_zero]; rfl
theorem bad_none {n N S : Nat} : ∀ {l : List In} {k : Nat}, bad n N S l k = none → ∀ i x, l[i]? = some x → rt n N S (k + i) x = true
  | [], _, _, i, x, hx => by simp at hx
  | y :: l, k, h, i, x, hx => by
    rw [bad] at h
    by_cases hy : rt n N S k y = true
    · rw [if_pos hy] at h
      cases i with
      | zero => simp at hx; rw [← hx]; exact hy
      | succ i =>
        have := bad_none h i x (by simpa using hx)
        rw [show k + (i + 1) = k + 1 + i by omega]; exact this
    · rw [if_neg hy] at h; cases h
theorem rt_ok {n N S i : Nat} {x : In} (h : rt n N S i x = true) : ok x = true ∧ ((rx x).a = 3 → (i : Int) < x.a ∧ x.a ≤ n) ∧ ((rx x).a = 1 → x.a < N) ∧ ((rx x).a = 2 → x.a < S) := by
  unfold rt at h
  rw [Bool.and_eq_true] at h
  refine ⟨h.1, fun a => ?_, fun a => ?_, fun a => ?_⟩
  · have h2 := h.2
    rw [if_neg (by omega), if_neg (by omega), if_pos a] at h2
    have := of_decide_eq_true h2
    omega
  · have h2 := h.2
    rw [if_pos a] at h2
    exact of_decide_eq_true h2
  · have h2 := h.2
    rw [if_neg (by omega), if_pos a] at h2
    exact of_decide_eq_true h2
theorem h0_len (n : Nat) : (h0 n).length = n + 1 := by simp [h0]
theorem h0_mem (n : Nat) : ∀ z ∈ h0 n, -1 ≤ z ∧ z ≤ 32768 := by
  intro z hz
  simp only [h0, List.mem_cons, List.mem_replicate] at hz
  omega
theorem hts_big {l : List In} {N S : Nat} (h : 131072 < l.length) : hts l N S = ([], 131072, 260) := by unfold hts; rw [if_pos h]
theorem hts_bad {l : List In} {N S i : Nat} (h : ¬ 131072 < l.length) (hb : bad l.length N S l 0 = some i) : hts l N S = ([], i, 260) := by unfold hts; rw [if_neg h, hb]
theorem hts_run {l : List In} {N S i : Nat} (h : ¬ 131072 < l.length) (hb : bad l.length N S l 0 = none) (hr : run l 0 (h0 l.length) = .inl i) : hts l N S = ([], i, 260) := by unfold hts; rw [if_neg h, hb, hr]
theorem hts_end {l : List In} {N S : Nat} {hs : List Int} (h : ¬ 131072 < l.length) (hb : bad l.length N S l 0 = none) (hr : run l 0 (h0 l.length) = .inr hs) : hts l N S = if hs.getD l.length 0 = 1 then (hs, 0, 0) else ([], l.length, 260) := by unfold hts; rw [if_neg h, hb, hr]
/-- What Heights tells. -/
def HT (w0 : World) (n : Nat) (T : List Int × Nat × Int) (e : Ending) (w' : World) : Prop :=
  ∃ v, e = .returned (.tuple #[v, .int .i64 (T.2.1 : Int), .int .i64 T.2.2]) ∧ Below w0.heap.size w0 w' ∧ ((T.2.2 = 0 ∧ ∃ g, v = .slice (some ⟨g, 0, none⟩) (n + 1) (n + 1) ∧ w0.heap.size ≤ g ∧ HB w' g T.1 ∧ T.1.length = n + 1 ∧ ∀ z ∈ T.1, -1 ≤ z ∧ z ≤ 32768) ∨ (T.2.2 = 260 ∧ v = .slice none 0 0))
end Cd

set_option maxRecDepth 100000 in
set_option maxHeartbeats 4000000 in
theorem chts_any (l : List Cd.In) (p q r : Option Addr) (cap N c2 S c3 : Nat) (w : World) (hL : Cd.LI w p l) (hn : l.length ≤ 9223372036854775807) (hN : N ≤ 9223372036854775807) (hS : S ≤ 9223372036854775807) :
    Calls Tryd.prog 10 #[.agg #[.slice p l.length cap, .slice q N c2, .slice r S c3]] w fun e w' => Cd.HT w l.length (Cd.hts l N S) e w' := by
  obtain ⟨n, hn'⟩ : ∃ n, l.length = n := ⟨_, rfl⟩
  have hni : (n : Int) ≤ 9223372036854775807 := by omega
  have hNi : (N : Int) ≤ 9223372036854775807 := by omega
  have hSi : (S : Int) ≤ 9223372036854775807 := by omega
  have B1 := hid (alloc_b w (.cells #[.slice p n cap, .slice q N c2, .slice r S c3] 26))
  have X1 := hid (Bx.new w 26 #[.slice p n cap, .slice q N c2, .slice r S c3])
  have L1 := hid (hL.on B1.out)
  have L0 := hid hL
  by_cases hb : 131072 < n
  · have hbi : (131072 : Int) < (n : Int) := by omega
    have F : Hid (∀ w', Below w.heap.size w w' → Cd.HT w l.length (Cd.hts l N S) (.returned (.tuple #[.slice none 0 0, .int .i64 131072, .int .i64 260])) w') := fun w' hw => by
      rw [Cd.hts_big (by omega)]
      exact ⟨_, rfl, hw, .inr ⟨rfl, rfl⟩⟩
    rw [hn'] at F ⊢
    clear hL hn
    go_enter Tryd.func10, Tryd.ntmps10
    go_wp2_with fail
    go_ret3
    exact F.out _ B1.out
  · have hbi : ¬ (131072 : Int) < (n : Int) := by omega
    have hb2 : (n : Int) ≤ 131072 := by omega
    have RT := hid (fun (W : World) tb i x (hT : Cd.TB W tb) (hL : Cd.LI W p l) (hx : l[i]? = some x) => cright_any l p q r cap N c2 S c3 i x W tb hT hL hx hn hN hS)
    have WO := hid (fun W => cwords_any W)
    have LA := hid (fun W => cd_lay W)
    have TH := hid (fun W => cd_there W)
    have UN := hid (fun W => cunr_any (n + 1) W (by omega))
    rw [show ((n + 1 : Nat) : Int) = (n : Int) + 1 by omega] at UN
    have FB : Hid (∀ i w', Below w.heap.size w w' → Cd.bad n N S l 0 = some i → Cd.HT w l.length (Cd.hts l N S) (.returned (.tuple #[.slice none 0 0, .int .i64 (i : Int), .int .i64 260])) w') := fun i w' hw he => by
      rw [Cd.hts_bad (by omega) (by rw [hn']; exact he)]
      exact ⟨_, rfl, hw, .inr ⟨rfl, rfl⟩⟩
    have FR : Hid (∀ i w', Below w.heap.size w w' → Cd.bad n N S l 0 = none → Cd.run l 0 (Cd.h0 n) = .inl i → Cd.HT w l.length (Cd.hts l N S) (.returned (.tuple #[.slice none 0 0, .int .i64 (i : Int), .int .i64 260])) w') := fun i w' hw he h2 => by
      rw [Cd.hts_run (by omega) (by rw [hn']; exact he) (by rw [hn']; exact h2)]
      exact ⟨_, rfl, hw, .inr ⟨rfl, rfl⟩⟩
    have FE : Hid (∀ hs w', Below w.heap.size w w' → Cd.bad n N S l 0 = none → Cd.run l 0 (Cd.h0 n) = .inr hs → ¬ hs.getD n 0 = 1 → Cd.HT w l.length (Cd.hts l N S) (.returned (.tuple #[.slice none 0 0, .int .i64 (n : Int), .int .i64 260])) w') := fun hs w' hw he h2 h3 => by
      rw [Cd.hts_end (by omega) (by rw [hn']; exact he) (by rw [hn']; exact h2), hn', if_neg h3]
      exact ⟨_, rfl, hw, .inr ⟨rfl, rfl⟩⟩
    have FG : Hid (∀ hs g w', Below w.heap.size w w' → Cd.bad n N S l 0 = none → Cd.run l 0 (Cd.h0 n) = .inr hs → hs.getD n 0 = 1 → w.heap.size ≤ g → Cd.HB w' g hs → hs.length = n + 1 → (∀ z ∈ hs, -1 ≤ z ∧ z ≤ 32768) → Cd.HT w l.length (Cd.hts l N S) (.returned (.tuple #[.slice (some ⟨g, 0, none⟩) (n + 1) (n + 1), .int .i64 0, .int .i64 0])) w') := fun hs g w' hw he h2 h3 h4 h5 h6 h7 => by
      rw [Cd.hts_end (by omega) (by rw [hn']; exact he) (by rw [hn']; exact h2), hn', if_pos h3]
      exact ⟨_, rfl, hw, .inl ⟨rfl, g, rfl, h4, h5, h6, h7⟩⟩
    have BS : Hid (∀ i x, l[i]? = some x → _) := fun i x hx => Cd.bad_step (n := n) (N := N) (S := S) hx
    have BE : Hid (Cd.bad n N S (l.drop n) n = none) := by rw [← hn']; exact Cd.bad_end
    have RE : Hid (∀ hs, Cd.run (l.drop n) n hs = .inr hs) := fun hs => by rw [← hn', List.drop_length, Cd.run]
    have GX : Hid (∀ i, i < n → ∃ x, l[i]? = some x) := fun i hi => ⟨_, List.getElem?_eq_getElem (by omega)⟩
    have S0 : Hid (Cd.bad n N S (l.drop 0) 0 = Cd.bad n N S l 0) := rfl
    rw [hn'] at RT FB FR FE FG ⊢
    clear hL hn hb
    go_enter Tryd.func10, Tryd.ntmps10
    go_upto_region 1 with fail
    generalize w.alloc (.cells #[.slice p n cap, .slice q N c2, .slice r S c3] 26) = w1 at *
    obtain ⟨k0, k1, k2⟩ := bx3 X1.out
    go_upto_region 5 with (first
      | (go_at_call 15; refine (WO.out _).mono ?_; rintro e w2 ⟨rfl, hB⟩; obtain ⟨W2, hW, hT, hB2⟩ := LA.out w2; have HW := hid hW; have T2 := hid hT; have X2 := hid ((X1.out.on hB).on hB2); have L2 := hid ((L1.out.on hB).on hB2); have B2 := hid (below_on (below_on B1.out hB) hB2); clear hB hB2 hW hT WO LA)
      | (refine wpList_store_to rfl 55 _ _ rfl w2.heap.size 0 _ rfl rfl (TH.out w2) cd_info cd_one HW.out ?_; clear TH HW))
    generalize hwt : w2.heap.size = tb at *
    have J0 : Hid (Cd.bad n N S (l.drop 0) 0 = Cd.bad n N S l 0 ∧ Below w.heap.size w W2 ∧ Cd.TB W2 tb ∧ Bx W2 w.heap.size 26 #[.slice p n cap, .slice q N c2, .slice r S c3]) := ⟨rfl, B2.out, T2.out, X2.out⟩
    obtain ⟨k0, k1, k2⟩ := bx3 X2.out
    go_wp2_with fail
    go_loopg [20] n (fun m iv wr => ∃ k : Nat, k + m = n ∧ iv = .int .i64 (k : Int) ∧ Hid (Cd.bad n N S (l.drop k) k = Cd.bad n N S l 0 ∧ Below w.heap.size w wr ∧ Cd.TB wr tb ∧ Bx wr w.heap.size 26 #[.slice p n cap, .slice q N c2, .slice r S c3]))
    case atStart => exact ⟨0, by omega, rfl, J0⟩
    case round =>
      obtain ⟨k, hk, rfl, J⟩ := hrel
      clear J0 B2 T2 X2 L1 L2 k0 k1 k2 hwt B1 X1
      obtain ⟨k0, k1, k2⟩ := bx3 J.out.2.2.2
      by_cases kl : k < n
      · have kli : (k : Int) < (n : Int) := by omega
        obtain ⟨x, hx⟩ := GX.out k kl
        have R := hid (RT.out wr tb k x J.out.2.2.1 (L0.out.below J.out.2.1 (Nat.le_refl _)) hx)
        have E := BS.out k x hx
        rw [J.out.1] at E
        have JB := hid J.out.2
        cases hz : Cd.rt n N S k x with
        | true =>
          rw [hz] at R
          rw [hz, if_pos rfl] at E
          have E1 := hid E.symm
          clear E J hz RT UN FB FR FE FG hx
          go_wp2_with (go_at_call 17; refine R.out.mono ?_; rintro e w3 ⟨rfl, hB⟩; have F : Hid (Cd.bad n N S (l.drop (k + 1)) (k + 1) = Cd.bad n N S l 0 ∧ Below w.heap.size w w3 ∧ Cd.TB w3 tb ∧ Bx w3 w.heap.size 26 #[.slice p n cap, .slice q N c2, .slice r S c3]) := ⟨E1.out, below_on JB.out.1 hB, JB.out.2.1.on hB, JB.out.2.2.on hB⟩; clear hB R)
          go_roundg (n - (k + 1))
          case measure => omega
          case rel => exact ⟨k + 1, by omega, by go_num, F⟩
        | false =>
          rw [hz] at R
          rw [hz, if_neg (by decide)] at E
          have E1 := hid E
          clear E J hz RT UN FR FE FG hx
          go_wp2_with (go_at_call 17; refine R.out.mono ?_; rintro e w3 ⟨rfl, hB⟩; have F := hid (below_on JB.out.1 hB); clear hB R)
          go_ret3
          exact FB.out k _ F.out E1.out
      · have kli : ¬ (k : Int) < (n : Int) := by omega
        have kn : k = n := by omega
        subst kn
        have BN : Hid (Cd.bad k N S l 0 = none) := by rw [Hid, ← J.out.1]; exact BE.out
        have JB := hid J.out.2
        clear J RT BS BE FB kl
        go_upto_region 12 with (go_at_call 18; refine (UN.out _).mono ?_; rintro e w3 ⟨rfl, hh, hB⟩; have H3 := hid hh; have B3 := hid (below_on JB.out.1 hB); have T3 := hid (JB.out.2.1.on hB); have X3 := hid (JB.out.2.2.on hB); have sz := hh.lt; clear hB hh UN)
        have tlt := JB.out.2.1.lt
        have wg := JB.out.1.size
        have xlt := JB.out.2.2.lt
        generalize wr.heap.size = g at *
        have c0 := H3.out.cell 0 (by rw [List.length_replicate]; omega)
        have f0 := H3.out.free 0
        have H4 : Hid (Cd.HB (w3.setCell ⟨g, 0, none⟩ (.int .i64 0)) g (Cd.h0 k)) := by
          have := H3.out.put 0 0
          rwa [Cd.h0_set] at this
        have B4 := hid (B3.out.setCell (p := ⟨g, 0, none⟩) wg (.int .i64 0))
        have T4 : Hid (Cd.TB (w3.setCell ⟨g, 0, none⟩ (.int .i64 0)) tb) := Bx.far (show Bx _ _ _ _ from T3.out) (by omega)
        obtain ⟨k0, k1, k2⟩ := bx3 (X3.out.far (c := g) (o := 0) (v := .int .i64 0) (fun e => by omega))
        clear T3 X3 B3 H3 JB
        go_upto_region 13 with fail
        clear c0 f0
        generalize w3.setCell ⟨g, 0, none⟩ (.int .i64 0) = w4 at *
        have J2 : Hid (∃ hs, Cd.run (l.drop 0) 0 hs = Cd.run l 0 (Cd.h0 k) ∧ Cd.HB w4 g hs ∧ hs.length = k + 1 ∧ (∀ z ∈ hs, -1 ≤ z ∧ z ≤ 32768) ∧ Below w.heap.size w w4 ∧ Cd.TB w4 tb) := ⟨Cd.h0 k, rfl, H4.out, Cd.h0_len k, Cd.h0_mem k, B4.out, T4.out⟩
        have tg : tb ≠ g := by omega
        clear tlt H4 B4 T4 sz
        have BX : Hid (∀ i x, l[i]? = some x → Cd.rt k N S i x = true) := fun i x hx => by
          have := Cd.bad_none BN.out i x hx
          rwa [Nat.zero_add] at this
        go_wp2_with fail
        clear k0 k1 k2
        go_loopg [37] k (fun m iv wr => ∃ j : Nat, j + m = k ∧ iv = .int .i64 (j : Int) ∧ Hid (∃ hs, Cd.run (l.drop j) j hs = Cd.run l 0 (Cd.h0 k) ∧ Cd.HB wr g hs ∧ hs.length = k + 1 ∧ (∀ z ∈ hs, -1 ≤ z ∧ z ≤ 32768) ∧ Below w.heap.size w wr ∧ Cd.TB wr tb))
        case atStart => exact ⟨0, by omega, rfl, J2⟩
        case round =>
          obtain ⟨j, hj, rfl, J⟩ := hrel
          clear J2
          obtain ⟨hs, q1, q2, q3, q4, q5, q6⟩ := J.out
          have RU := hid q1
          have HH := hid q2
          have HM := hid q4
          have BB := hid q5
          have TT := hid q6
          clear J q1 q2 q4 q5 q6
          by_cases jl : j < k
          · have jli : (j : Int) < (k : Int) := by omega
            obtain ⟨x, hx⟩ := GX.out j jl
            obtain ⟨b, off, hp, c0, c1, c2'⟩ := (L0.out.below BB.out (Nat.le_refl _)) j x hx
            subst hp
            have A1 := hid (alloc_b wr (.cells #[.int .i64 x.w, .int .i64 x.a, .int .i64 x.b] 28))
            have Y1 := hid (Bx.new wr 28 #[.int .i64 x.w, .int .i64 x.a, .int .i64 x.b])
            have HN := hid (HH.out.on A1.out)
            have hc := HN.out.cell j (by omega)
            obtain ⟨ro, ra, -, -⟩ := Cd.rt_ok (BX.out j x hx)
            by_cases hz : hs.getD j 0 < 0
            · have RS := Cd.run_skip hx hz
              have F : Hid (∃ hs', Cd.run (l.drop (j + 1)) (j + 1) hs' = Cd.run l 0 (Cd.h0 k) ∧ Cd.HB (wr.alloc (.cells #[.int .i64 x.w, .int .i64 x.a, .int .i64 x.b] 28)) g hs' ∧ hs'.length = k + 1 ∧ (∀ z ∈ hs', -1 ≤ z ∧ z ≤ 32768) ∧ Below w.heap.size w (wr.alloc (.cells #[.int .i64 x.w, .int .i64 x.a, .int .i64 x.b] 28)) ∧ Cd.TB (wr.alloc (.cells #[.int .i64 x.w, .int .i64 x.a, .int .i64 x.b] 28)) tb) :=
                ⟨hs, RS.symm.trans RU.out, HN.out, q3, HM.out, below_on BB.out A1.out, TT.out.on A1.out⟩
              generalize hs.getD j 0 = h at *
              obtain ⟨xw, xa, xb⟩ := x
              simp only at *
              clear RS RU HH HM BB TT A1 Y1 HN ro ra hx
              go_wp2_with fail
              go_roundg (k - (j + 1))
              case measure => omega
              case rel => exact ⟨j + 1, by omega, by go_num, F⟩
            · obtain ⟨h0, h1⟩ := HM.out (hs.getD j 0) (by rw [List.getD_eq_getElem?_getD, List.getElem?_eq_getElem (by omega)]; exact List.getElem_mem _)
              have ra2 : (Cd.rx x).a = 3 → (j : Int) < x.a ∧ x.a < ((k + 1 : Nat) : Int) := fun e => by have := ra e; omega
              have B1' := hid (below_on BB.out A1.out)
              have TN := hid (TT.out.on A1.out)
              cases hps : Cd.ps x j hs with
              | none =>
                have P := hid (cpass_none x hs (k + 1) (k + 1) j _ tb g TN.out HN.out q3 (by omega) (by omega) ro ra2 (by omega) h1 tg hps)
                have RS := Cd.run_no hx hz hps
                have F := hid (FR.out j · · BN.out (RU.out.symm.trans RS))
                clear RS RU HH HM BB TT A1 HN TN hps ro ra ra2 hx FE FG q3
                generalize hs.getD j 0 = h at *
                obtain ⟨y0, y1, y2⟩ := bx3 Y1.out
                obtain ⟨xw, xa, xb⟩ := x
                simp only at *
                go_wp2_with (go_at_call 19; refine P.out.mono ?_; rintro e w6 ⟨rfl, hK⟩; have B6 := hid (B1'.out.trans (hK.below B1'.out.size (fun b e => by rw [e]; exact wg))); clear hK P)
                go_ret3
                exact F.out _ B6.out
              | some hs' =>
                have P := hid (cpass_some x hs hs' (k + 1) (k + 1) j _ tb g TN.out HN.out q3 (by omega) (by omega) ro ra2 (by omega) h1 tg hps)
                have RS := Cd.run_ok hx hz hps
                obtain ⟨l1, l2⟩ := Cd.ps_keeps hps (Cd.tk_rng ro).2.2.1 HM.out
                have F0 := hid (And.intro (RS.symm.trans RU.out) (And.intro (l1.trans q3) l2))
                clear RS RU HH HM BB TT A1 HN hps ro ra ra2 hx FE FG q3 FR l1 l2
                generalize hs.getD j 0 = h at *
                obtain ⟨y0, y1, y2⟩ := bx3 Y1.out
                obtain ⟨xw, xa, xb⟩ := x
                simp only at *
                go_wp2_with (go_at_call 19; refine P.out.mono ?_; rintro e w6 ⟨rfl, g1, hK⟩; have F : Hid (∃ hs', Cd.run (l.drop (j + 1)) (j + 1) hs' = Cd.run l 0 (Cd.h0 k) ∧ Cd.HB w6 g hs' ∧ hs'.length = k + 1 ∧ (∀ z ∈ hs', -1 ≤ z ∧ z ≤ 32768) ∧ Below w.heap.size w w6 ∧ Cd.TB w6 tb) := ⟨hs', F0.out.1, g1, F0.out.2.1, F0.out.2.2, B1'.out.trans (hK.below B1'.out.size (fun b e => by rw [e]; exact wg)), Bx.kp (show Bx _ _ _ _ from TN.out) hK tg⟩; clear hK P g1)
                go_roundg (k - (j + 1))
                case measure => omega
                case rel => exact ⟨j + 1, by omega, by go_num, F⟩
          · have jli : ¬ (j : Int) < (k : Int) := by omega
            obtain rfl : j = k := by omega
            have RR : Hid (Cd.run l 0 (Cd.h0 j) = .inr hs) := RU.out.symm.trans (RE.out hs)
            have hc := HH.out.cell j (by omega)
            by_cases hz : hs.getD j 0 = 1
            · have F := hid (FG.out hs g wr BB.out BN.out RR.out hz wg HH.out q3 HM.out)
              rw [hz] at hc
              clear RU HH HM BB TT RR FR FE FG q3 hz
              go_wp2_with fail
              go_ret3
              exact F.out
            · have F := hid (FE.out hs wr BB.out BN.out RR.out hz)
              have hz2 := beq_false_of_ne hz
              generalize hs.getD j 0 = h at *
              clear RU HH HM BB TT RR FR FE FG q3
              go_wp2_with fail
              go_ret3
              exact F.out
end Go.Proofs.YtnobafmleellhabDoor
