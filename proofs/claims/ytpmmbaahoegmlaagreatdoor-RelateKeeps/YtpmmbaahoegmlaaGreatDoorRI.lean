/-
  Texts put together: ReKo, GBulk, OpenValR, ReKoV, FTab, LTab.
-/
import Derived.Test.YtpmmbaahoegmlaaGreatDoorRH
import Derived.Test.YtpmmbaahoegmlaaGreatDoorRD
import Derived.Test.YtpmmbaahoegmlaaGreatDoorRF
import Derived.Deep.DeepCutAuto
import Derived.Deep.RegionHeld3
import Derived.Test.YtpmmbaahoegmlaaGreatDoorRows
import Derived.SizedLaws
import Derived.ProofKit
import Derived.Test.YtpmmbaahoegmlaaGreatDoorTrailW
import Derived.Lib.LaidTab
import Derived.Test.YtpmmbaahoegmlaaGreatDoorRA
namespace Go.Proofs.YtpmmbaahoegmlaaGreatDoor
open Go Go.RowKit Go.Deep Go.Shelf

theorem held_app18 {ty : TypeId} {o : Oper} {a : Act} {Q : Exit → Act → World → Prop} {K' : Act → World → Prop} {ops : Array Oper} (hgd : o.guard = none) (s x : Operand)
    (ho : o.op = .call { callee := .builtin .append, args := #[s, x], argTypes := #[ty, ty] }) {v y2 v' : Value} {w w' : World} (hr : (Builtin.append_ #[ty, ty] o.type #[v, y2]).run Tryz.prog w = .ok v' w') (hs : a.eval s = v) (hx : a.eval x = y2)
    (h : K' (a.put o.dst v') w') : if Region.wanted o (yielded ops a.tmps) = true then Oper.wp Tryz.prog o a w K' Q else K' (a.put o.dst undef) w := by
  simp only [Region.wanted, hgd, if_true]
  unfold Oper.wp execOp
  simp only [ho, resolve, invoke, builtin, Sem.run_bind, Sem.run_pure, Result.andThen_ok, List.map_toArray, List.map_cons, List.map_nil, hs, hx, hr]
  exact h
namespace Re
def mk3 (s : ByteArray) : List Vl := [⟨2, 0, s⟩, ⟨2, 0, s⟩, ⟨2, 0, s⟩]
theorem dwn_w {n : Nat} (hn : n ≤ 4398046511104) : ∀ a ∈ dwn n, 0 ≤ a.n ∧ a.n < 18446744073709551616 := fun a ha => by
  obtain ⟨i, hi, e⟩ := List.getElem_of_mem ha
  rw [dwn_len] at hi
  have := dwn_at hi
  rw [List.getElem?_eq_getElem (by rw [dwn_len]; exact hi), e] at this
  rw [Option.some.inj this]
  show 0 ≤ ((n - i : Nat) : Int) ∧ ((n - i : Nat) : Int) < _
  omega
end Re

set_option maxRecDepth 100000 in
set_option maxHeartbeats 8000000 in
theorem rkeeps_law (p : Option Addr) (cap : Nat) (A : List Re.Vl) (k : Int) (w : World) (ht : Tab10 w) (hv : Re.LV w p A) (hw : ∀ a ∈ A, 0 ≤ a.n ∧ a.n < 18446744073709551616) (hl : A.length ≤ 4398046511104) (hk : k ≤ 9223372036854775807) :
    Calls Tryz.prog 3 #[.slice p A.length cap, .int .i64 k] w fun e w' => e = .returned (.bool true) ∧ Below w.heap.size w w' := by
  obtain ⟨ms, hms⟩ : ∃ ms : ByteArray, (⟨#[97, 32, 109, 97, 114, 107, 32, 98, 101, 104, 105, 110, 100, 32, 116, 104, 101, 32, 108, 105, 115, 116]⟩ : ByteArray) = ms := ⟨_, rfl⟩
  have AW := hid (rawake_any w ht)
  have ST := hid (fun W => rstr_any ms W)
  have VA := hid (fun W (z : Below w.heap.size w W) => values_any p cap A W (hv.on z) hl)
  have SO := hid (fun q c W (z : Re.LV W q A) => sort_own q c A W z hw hl)
  have TK := hid (fun q c W (z : Re.LV W q A) => top_own q c A k W z hw hl hk)
  have TN := hid (fun q c W (z : Re.LV W q A) => top_own q c A (A.length : Int) W z hw hl (by omega))
  obtain ⟨n, hn⟩ : ∃ n, A.length = n := ⟨_, rfl⟩
  have SD := hid (fun q c W (z : Re.LV W q (Re.dwn n)) => sort_own q c (Re.dwn n) W z (Re.dwn_w (by omega)) (by rw [Re.dwn_len]; omega))
  rw [Re.dwn_len] at SD
  have HN := hid hn
  have HV := hid hv
  rw [hn] at VA SO TK TN hl ⊢
  have HL := hid hl
  have nl : (n : Int) ≤ 4398046511104 := by omega
  clear hv hw hn ht hk
  go_enter Tryz.func3, Tryz.ntmps3
  go_wp2_with fail
  refine AW.out.mono ?_
  rintro e w1 ⟨rfl, b1⟩
  have B1 := hid b1
  clear b1 AW
  go_wp2_with fail
  refine (ST.out _).mono ?_
  rintro e w2 ⟨rfl, b2⟩
  have B2 := hid (below_on B1.out b2)
  clear b2 B1 ST
  have A1 := alloc_b w2 (.cells #[.int .i64 2, .int .u64 0, .string ms] 26)
  have MB : Hid (Bx (w2.alloc (.cells #[.int .i64 2, .int .u64 0, .string ms] 26)) w2.heap.size 26 (Re.ev ⟨2, 0, ms⟩).toArray) := Bx.new w2 26 _
  have B3 := hid (below_on B2.out A1)
  have S3 : Hid (w.heap.size ≤ w2.heap.size) := B2.out.size
  clear A1 B2 hms
  go_upto_region 5 with fail
  generalize w2.alloc (.cells #[.int .i64 2, .int .u64 0, .string ms] 26) = wA at *
  generalize w2.heap.size = bm at *
  have CM : Hid (∀ W, Below wA.heap.size wA W → W.cell? ⟨bm, 0, none⟩ = some (.int .i64 2) ∧ W.cell? ⟨bm, 1, none⟩ = some (.int .u64 0) ∧ W.cell? ⟨bm, 2, none⟩ = some (.string ms)) := fun W b =>
    ⟨(MB.out.on b).cell 0 _ rfl, (MB.out.on b).cell 1 _ rfl, (MB.out.on b).cell 2 _ rfl⟩
  have VB := hid (fun W (z : Below wA.heap.size wA W) => VA.out W (below_on B3.out z))
  have SSD : Hid (Below wA.heap.size wA wA.drew) := ⟨rfl, rfl, rfl, Nat.le_refl _, fun _ _ => rfl⟩
  have AA : Hid (∀ (v1 : World) (gv : Nat), Bx v1 gv 26 (Re.fl Re.ev A).toArray → Below wA.heap.size wA v1 → ∃ g c w7, (Builtin.append_ #[22, 22] 22 #[.slice (some ⟨gv, 0, none⟩) n n, .slice (some ⟨v1.heap.size, 0, none⟩) 3 3]).run Tryz.prog (v1.alloc (.cells #[.int .i64 2, .int .u64 0, .string ms, .int .i64 2, .int .u64 0, .string ms, .int .i64 2, .int .u64 0, .string ms] 26)) = .ok (.slice (some ⟨g, 0, none⟩) (n + 3) c) w7 ∧ Re.GR Re.ev 3 26 wA.heap.size w7 g c (A ++ Re.mk3 ms) ∧ Below wA.heap.size wA w7) := fun v1 gv x bb => by
    have al := alloc_b v1 (.cells #[.int .i64 2, .int .u64 0, .string ms, .int .i64 2, .int .u64 0, .string ms, .int .i64 2, .int .u64 0, .string ms] 26)
    obtain ⟨g, c, w7, r, gr, bo⟩ := Re.appv (B := Re.mk3 ms) (x.on al) (Bx.new v1 26 #[.int .i64 2, .int .u64 0, .string ms, .int .i64 2, .int .u64 0, .string ms, .int .i64 2, .int .u64 0, .string ms]) (by simp [Re.mk3]) (by rw [HN.out]; simp [Re.mk3]; have := HL.out; omega)
    rw [HN.out] at r
    have l1 := below_on bb al
    exact ⟨g, c, w7, r, ⟨gr.bx, gr.le, gr.cm, Nat.le_trans l1.size gr.bb⟩, below_on l1 bo⟩
  have SSE : Hid (Below wA.heap.size wA (wA.alloc (.cells #[.int .i64 2, .int .u64 0, .string ms, .int .i64 2, .int .u64 0, .string ms, .int .i64 2, .int .u64 0, .string ms] 26)).drew) := below_on (alloc_b wA _) ⟨rfl, rfl, rfl, Nat.le_refl _, fun _ _ => rfl⟩
  have AE : Hid (∀ (v1 : World) (gv : Nat), Bx v1 gv 26 (Re.fl Re.ev A).toArray → Below (wA.alloc (.cells #[.int .i64 2, .int .u64 0, .string ms, .int .i64 2, .int .u64 0, .string ms, .int .i64 2, .int .u64 0, .string ms] 26)).drew.heap.size (wA.alloc (.cells #[.int .i64 2, .int .u64 0, .string ms, .int .i64 2, .int .u64 0, .string ms, .int .i64 2, .int .u64 0, .string ms] 26)).drew v1 → ∃ g c w7, (Builtin.append_ #[22, 22] 22 #[.slice (some ⟨gv, 0, none⟩) n n, .slice (some ⟨wA.heap.size, 0, none⟩) 3 3]).run Tryz.prog v1 = .ok (.slice (some ⟨g, 0, none⟩) (n + 3) c) w7 ∧ Re.GR Re.ev 3 26 wA.heap.size w7 g c (A ++ Re.mk3 ms) ∧ Below wA.heap.size wA w7) := fun v1 gv x bb => by
    have n0 := Bx.new wA 26 #[.int .i64 2, .int .u64 0, .string ms, .int .i64 2, .int .u64 0, .string ms, .int .i64 2, .int .u64 0, .string ms]
    have n1 : Bx (wA.alloc (.cells #[.int .i64 2, .int .u64 0, .string ms, .int .i64 2, .int .u64 0, .string ms, .int .i64 2, .int .u64 0, .string ms] 26)).drew wA.heap.size 26 #[.int .i64 2, .int .u64 0, .string ms, .int .i64 2, .int .u64 0, .string ms, .int .i64 2, .int .u64 0, .string ms] := n0.on ⟨rfl, rfl, rfl, Nat.le_refl _, fun _ _ => rfl⟩
    have lb := n1.on bb
    obtain ⟨g, c, w7, r, gr, bo⟩ := Re.appv (B := Re.mk3 ms) x lb (by simp [Re.mk3]) (by rw [HN.out]; simp [Re.mk3]; have := HL.out; omega)
    rw [HN.out] at r
    have l1 := below_on SSE.out bb
    exact ⟨g, c, w7, r, ⟨gr.bx, gr.le, gr.cm, Nat.le_trans l1.size gr.bb⟩, below_on l1 bo⟩
  obtain ⟨N, hN⟩ : ∃ N, n + 3 = N := ⟨_, rfl⟩
  rw [hN] at AA AE
  go_cut [7] (fun v wx => ∃ g c, v = .slice (some ⟨g, 0, none⟩) N c ∧ Hid (Re.GR Re.ev 3 26 wA.heap.size wx g c (A ++ Re.mk3 ms) ∧ Below wA.heap.size wA wx))
  case first =>
    clear VA SO TK TN SD hN
    obtain ⟨m0, m1, m2⟩ := CM.out _ (Below.refl _ _)
    go_region_held3 (fun wx => wx.cell? ⟨bm, 0, none⟩ = some (.int .i64 2) ∧ wx.cell? ⟨bm, 1, none⟩ = some (.int .u64 0) ∧ wx.cell? ⟨bm, 2, none⟩ = some (.string ms)) (first | (with_reducible exact CM.out _ X7.out.2) | (with_reducible exact CM.out _ U2.out) | (with_reducible exact CM.out _ U1.out) | (with_reducible exact CM.out _ SSE.out) | (with_reducible exact CM.out _ SSD.out)) (first
      | (go_at_call 6; first
        | ((with_reducible refine (VB.out _ SSD.out).mono ?_); rintro e v1 ⟨gv, rfl, hg, x1, hB⟩; have U1 := hid (below_on SSD.out hB); have U2 := hid (below_on U1.out (alloc_b v1 (.cells #[.int .i64 2, .int .u64 0, .string ms, .int .i64 2, .int .u64 0, .string ms, .int .i64 2, .int .u64 0, .string ms] 26))); obtain ⟨g, c, w7, AP, X7⟩ := AA.out v1 gv x1 U1.out; have AP := hid AP; have X7 := hid X7; clear hB hg x1)
        | ((with_reducible refine (VB.out _ SSE.out).mono ?_); rintro e v1 ⟨gv, rfl, hg, x1, hB⟩; have U1 := hid (below_on SSE.out hB); obtain ⟨g, c, w7, AP, X7⟩ := AE.out v1 gv x1 hB; have AP := hid AP; have X7 := hid X7; clear hB hg x1))
      | (refine held_app18 rfl _ _ rfl AP.out (by rfl) (by rfl) ?_))
    all_goals
      go_wp2_with fail
      go_meet
      exact ⟨g, c, rfl, X7⟩
  case rest =>
  obtain ⟨g, c, h7, X7⟩ := hcut
  subst h7
  have XL : (A ++ Re.mk3 ms).length = N := by rw [List.length_append, HN.out, ← hN]; rfl
  have cN : N ≤ c := by have := X7.out.1.le; rwa [XL] at this
  have cm := X7.out.1.cm
  simp only [maxLen] at cm
  have nc : (n : Int) ≤ (c : Int) := by omega
  have Ni : (N : Int) ≤ 4398046511107 := by omega
  have S4 : Hid (w.heap.size ≤ g ∧ g < wc.heap.size) := ⟨Nat.le_trans B3.out.size X7.out.1.bb, X7.out.1.lt⟩
  have K0 : Hid (Bx wc bm 26 (Re.ev ⟨2, 0, ms⟩).toArray ∧ Re.GR Re.ev 3 26 0 wc g c (A ++ Re.mk3 ms) ∧ Below w.heap.size w wc) := ⟨MB.out.on X7.out.2, X7.out.1.b0, below_on B3.out X7.out.2⟩
  have V0 : Hid (Re.LV wc (some ⟨g, 0, none⟩) A) := X7.out.1.lv
  have HX := hid XL
  have HNN := hid hN
  clear X7 MB B3 CM VB SSD SSE AA AE XL hN cN cm VA S3
  go_wp2_with fail
  refine (SO.out _ _ _ V0.out).mono ?_
  rintro e w5 ⟨ga, P, rfl, pl, xa, so, b5⟩
  have SP := hid so
  have PL := hid pl
  have S5 : Hid (wc.heap.size ≤ ga ∧ ga < w5.heap.size) := ⟨xa.bb, xa.lt⟩
  have K1 := hid (And.intro (K0.out.1.on b5) (And.intro (K0.out.2.1.on b5) (And.intro xa.b0 (below_on K0.out.2.2 b5))))
  have V1 := hid (V0.out.on b5)
  clear so pl xa b5 K0 V0
  go_wp2_with fail
  refine (SO.out _ _ _ V1.out).mono ?_
  rintro e w6 ⟨gb, P', rfl, pl, xb, so, b6⟩
  have e6 := SP.out.uniq so
  subst e6
  have S6 : Hid (w5.heap.size ≤ gb ∧ gb < w6.heap.size) := ⟨xb.bb, xb.lt⟩
  have K2 := hid (And.intro (K1.out.1.on b6) (And.intro (K1.out.2.1.on b6) (And.intro (K1.out.2.2.1.on b6) (And.intro xb.b0 (below_on K1.out.2.2.2 b6)))))
  have V2 := hid (V1.out.on b6)
  clear so pl xb b6 K1 V1
  go_wp2_with fail
  refine (TK.out _ _ _ V2.out).mono ?_
  rintro e w7 ⟨qc, mc, cc, R, rfl, hm, rl, xc, -, b7⟩
  have S7 : Hid (∀ z, qc = some ⟨z, 0, none⟩ → w6.heap.size ≤ z ∧ z < w7.heap.size) := fun z e => xc.ge e
  have Z7 : Hid (w6.heap.size ≤ w7.heap.size) := b7.size
  have RL : Hid (R.length = mc ∧ mc ≤ n) := ⟨rl, by omega⟩
  have K3 := hid (And.intro (K2.out.1.on b7) (And.intro (K2.out.2.1.on b7) (And.intro (K2.out.2.2.1.on b7) (And.intro (K2.out.2.2.2.1.on b7) (And.intro xc.b0 (below_on K2.out.2.2.2.2 b7))))))
  have V3 := hid (V2.out.on b7)
  clear hm rl xc b7 K2 V2 TK
  go_wp2_with fail
  refine (TN.out _ _ _ V3.out).mono ?_
  rintro e w8 ⟨qd, md, cd, D, rfl, hm, dl, xd, dq, b8⟩
  obtain rfl : md = n := by omega
  have eD : D = P := by
    have := dq P SP.out
    rw [this, List.take_of_length_le (by rw [PL.out]; exact Nat.le_refl _)]
  subst eD
  have S8 : Hid (∀ z, qd = some ⟨z, 0, none⟩ → w7.heap.size ≤ z ∧ z < w8.heap.size) := fun z e => xd.ge e
  have Z8 : Hid (w7.heap.size ≤ w8.heap.size) := b8.size
  have I0 : Hid (Re.K4 w (A ++ Re.mk3 ms) ms bm g c ga gb md qc qd cc cd D R w8.heap.size w8) :=
    ⟨K3.out.1.on b8, K3.out.2.1.on b8, K3.out.2.2.1.on b8, K3.out.2.2.2.1.on b8, K3.out.2.2.2.2.1.on b8, xd.b0, below_on K3.out.2.2.2.2.2 b8, Nat.le_refl _⟩
  clear hm dl xd dq b8 K3 V3 TN
  go_wp2_with fail
  go_loopg [13] N (fun m iv wr => ∃ i : Nat, Hid (i + m = N) ∧ iv = .int .i64 (i : Int) ∧ Hid (Re.K4 w (A ++ Re.mk3 ms) ms bm g c ga gb md qc qd cc cd D R w8.heap.size wr))
  case atStart => exact ⟨0, by rw [Hid]; omega, rfl, I0⟩
  case round =>
    obtain ⟨i, hi, rfl, I⟩ := hrel
    clear I0
    by_cases iN : i < N
    · have iNi : (i : Int) < (N : Int) := by omega
      have KD := hid (fun q => I.out.on (below_drewN (Below.refl _ _) q))
      have IB : (i : Int) ≤ 4398046511107 := by omega
      by_cases il : i < md
      · have ili : (i : Int) < (md : Int) := by omega
        obtain ⟨v, hv⟩ : ∃ v, A[i]? = some v := ⟨_, List.getElem?_eq_getElem (by have := HN.out; omega)⟩
        have hX : (A ++ Re.mk3 ms)[i]? = some v := by rw [List.getElem?_append_left (by have := HN.out; omega)]; exact hv
        obtain ⟨b, off, rfl, v0, v1, v2⟩ := (HV.out.on I.out.bl).at hv
        have f0 := I.out.fu.cell Re.ev_len hX 0 (by omega) _ rfl
        have f1 := I.out.fu.cell Re.ev_len hX 1 (by omega) _ rfl
        have f2 := I.out.fu.cell Re.ev_len hX 2 (by omega) _ rfl
        rw [Nat.add_zero] at f0
        have EQ : ∀ W, (Op.equalIn 10000 26 (.agg #[.int .i64 v.k, .int .u64 v.n, .string v.s]) (.agg #[.int .i64 v.k, .int .u64 v.n, .string v.s])).run Tryz.prog W = .ok true W := fun W => by rw [eq_value]; simp
        generalize v.k = vk at *
        generalize v.n = vn at *
        generalize v.s = vs at *
        have db : decide ((i : Int) < (md : Int)) = true := decide_eq_true ili
        have ng : ¬ (md : Int) ≤ (i : Int) := by omega
        have dg : decide ((md : Int) ≤ (i : Int)) = false := decide_eq_false ng
        clear hX hv I
        go_upto_region 14 with fail
        go_big_quiet (fail)
        go_wp2_with fail
        go_roundg (N - (i + 1))
        case measure => have := hi.out; omega
        case rel => exact ⟨i + 1, by rw [Hid]; have := hi.out; omega, by go_num, KD.out _⟩
      · have ili : ¬ (i : Int) < (md : Int) := by omega
        have ige : (md : Int) ≤ (i : Int) := by omega
        have hX : (A ++ Re.mk3 ms)[i]? = some ⟨2, 0, ms⟩ := by
          have h1 := HN.out
          have h2 := HNN.out
          rw [List.getElem?_append_right (by omega), h1]
          have h3 : i - md = 0 ∨ i - md = 1 ∨ i - md = 2 := by omega
          rcases h3 with e | e | e <;> rw [e] <;> rfl
        have f0 : wr.cell? ⟨g, i * 3 + 0, none⟩ = some (.int .i64 2) := I.out.fu.cell Re.ev_len hX 0 (by omega) _ rfl
        have f1 : wr.cell? ⟨g, i * 3 + 1, none⟩ = some (.int .u64 0) := I.out.fu.cell Re.ev_len hX 1 (by omega) _ rfl
        have f2 : wr.cell? ⟨g, i * 3 + 2, none⟩ = some (.string ms) := I.out.fu.cell Re.ev_len hX 2 (by omega) _ rfl
        rw [Nat.add_zero] at f0
        have m0 : wr.cell? ⟨bm, 0, none⟩ = some (.int .i64 2) := I.out.mb.cell 0 _ rfl
        have m1 : wr.cell? ⟨bm, 1, none⟩ = some (.int .u64 0) := I.out.mb.cell 1 _ rfl
        have m2 : wr.cell? ⟨bm, 2, none⟩ = some (.string ms) := I.out.mb.cell 2 _ rfl
        have EQ : ∀ W, (Op.equalIn 10000 26 (.agg #[.int .i64 2, .int .u64 0, .string ms]) (.agg #[.int .i64 2, .int .u64 0, .string ms])).run Tryz.prog W = .ok true W := fun W => by rw [eq_value]; simp
        have db : decide ((i : Int) < (md : Int)) = false := decide_eq_false ili
        have dg : decide ((md : Int) ≤ (i : Int)) = true := decide_eq_true ige
        clear hX I
        go_upto_region 14 with fail
        go_big_quiet (fail)
        go_wp2_with fail
        go_roundg (N - (i + 1))
        case measure => have := hi.out; omega
        case rel => exact ⟨i + 1, by rw [Hid]; have := hi.out; omega, by go_num, KD.out _⟩
    · have iNi : ¬ (i : Int) < (N : Int) := by omega
      have T0 : Hid (∀ W, Below wr.heap.size wr W → Re.K4 w (A ++ Re.mk3 ms) ms bm g c ga gb md qc qd cc cd D R w8.heap.size W) := fun W b => I.out.on b
      have SI : Hid (∀ W q r c d, Re.RdI W q D → Re.RdI W r D → Calls Tryz.prog 9 #[.slice q md c, .slice r md d] W fun e w' => e = .returned (.bool true) ∧ Below W.heap.size W w') := fun W q r c d h1 h2 => by
        have := sameints_yes q r D c d W h1 h2 (by rw [PL.out]; exact HL.out)
        rwa [PL.out] at this
      clear iN hi I
      go_wp2_with fail
      refine (SI.out _ _ _ _ _ (T0.out _ (Below.refl _ _)).a.rd (T0.out _ (Below.refl _ _)).b.rd).mono ?_
      rintro e wa ⟨rfl, ba⟩
      have Ba := hid ba
      clear ba
      go_wp2_with fail
      refine (SI.out _ _ _ _ _ (T0.out _ Ba.out).a.rd (T0.out _ Ba.out).d.rd).mono ?_
      rintro e wb ⟨rfl, bb⟩
      have T1 := hid (T0.out _ (below_on Ba.out bb))
      clear bb Ba T0
      obtain ⟨gf, cf, wF, ap, hgf, rf, bF⟩ := Re.app_first T1.out.a PL.out HL.out
      have AP := hid ap
      have S9 : Hid (w8.heap.size ≤ wb.heap.size ∧ wb.heap.size ≤ gf ∧ wb.heap.size ≤ wF.heap.size) := ⟨T1.out.sz, hgf, bF.size⟩
      have T2 := hid (T1.out.on bF)
      have RF := hid rf
      have V4 : Hid (Re.LV wF (some ⟨g, 0, none⟩) A) := T2.out.fu.lv
      clear ap hgf rf bF
      go_wp2_with (at_builtin; refine wpList_append_t rfl _ _ rfl AP.out (by rfl) (by rfl) ?_; clear AP)
      refine (SO.out _ _ _ V4.out).mono ?_
      rintro e wE ⟨ge, P', rfl, pl, xe, so, bE⟩
      have eE := SP.out.uniq so
      subst eE
      have S10 : Hid (wF.heap.size ≤ ge ∧ ge < wE.heap.size) := ⟨xe.bb, xe.lt⟩
      have J0 : Hid (Re.K6 w (Re.upd A md 0 ++ Re.mk3 ms) ga gb ge gf g c md qc qd cc cd D R wE.heap.size wE) := by
        have k := T2.out.on bE
        rw [Hid, Re.upd_zero]
        exact ⟨k.fu, k.a, k.b, k.c, k.d, xe.b0, RF.out.on bE, k.bl, Nat.le_refl _⟩
      have NQ : Hid (w.heap.size ≤ g ∧ ga ≠ g ∧ gb ≠ g ∧ ge ≠ g ∧ gf ≠ g ∧ (∀ z, qc = some ⟨z, 0, none⟩ → z ≠ g) ∧ (∀ z, qd = some ⟨z, 0, none⟩ → z ≠ g)) := by
        have h4 := S4.out
        have h5 := S5.out
        have h6 := S6.out
        have h7 := Z7.out
        have h8 := Z8.out
        have h9 := S9.out
        have h10 := S10.out
        refine ⟨h4.1, by omega, by omega, by omega, by omega, fun z e => ?_, fun z e => ?_⟩
        · have := S7.out z e; omega
        · have := S8.out z e; omega
      clear pl xe so bE T1 T2 RF V4
      go_wp2_with fail
      go_loopg [16] md (fun m iv wx => ∃ i : Nat, Hid (i + m = md) ∧ iv = .int .i64 (i : Int) ∧ Hid (Re.K6 w (Re.upd A md i ++ Re.mk3 ms) ga gb ge gf g c md qc qd cc cd D R wE.heap.size wx))
      case atStart => exact ⟨0, by rw [Hid]; omega, rfl, J0⟩
      case round =>
        obtain ⟨i, hi, rfl, J⟩ := hrel
        clear J0
        by_cases il : i < md
        · have ili : (i : Int) < (md : Int) := by omega
          obtain ⟨dd, hdd⟩ : ∃ dd : Nat, (md : Int) - (i : Int) = (dd : Int) := ⟨md - i, by omega⟩
          have ddb : (dd : Int) ≤ 4398046511104 := by omega
          have HD : Hid (dd = md - i) := by rw [Hid]; omega
          have NU := hid (fun W => rnum_any (dd : Int) W)
          go_wp2_with fail
          refine (NU.out _).mono ?_
          rintro e w2 ⟨rfl, hB⟩
          have UL : (Re.upd A md i).length = md := Re.upd_len HN.out (by omega)
          have PU : Hid (Re.K6 w (Re.upd A md (i + 1) ++ Re.mk3 ms) ga gb ge gf g c md qc qd cc cd D R wE.heap.size (w2.setCells g (i * 3) [.int .i64 1, .int .u64 (dd : Int), .string ⟨#[]⟩])) := by
            obtain ⟨q0, q1, q2, q3, q4, q5, q6⟩ := NQ.out
            have := (J.out.on hB).put (i := i) (by rw [List.length_append, UL]; omega) ⟨1, (dd : Int), ⟨#[]⟩⟩ q0 q1 q2 q3 q4 q5 q6
            rw [List.set_append_left _ _ (by rw [UL]; exact il), HD.out, Re.upd_set HN.out il] at this
            rw [HD.out]
            exact this
          obtain ⟨v, hv⟩ : ∃ v, (Re.upd A md i ++ Re.mk3 ms)[i]? = some v := ⟨_, List.getElem?_eq_getElem (by rw [List.length_append, UL]; omega)⟩
          have f0 := (J.out.on hB).fu.cell Re.ev_len hv 0 (by omega) _ rfl
          have f1 := (J.out.on hB).fu.cell Re.ev_len hv 1 (by omega) _ rfl
          have f2 := (J.out.on hB).fu.cell Re.ev_len hv 2 (by omega) _ rfl
          rw [Nat.add_zero] at f0
          have fz := fun j => (J.out.on hB).fu.free j
          generalize v.k = vk at *
          generalize v.n = vn at *
          generalize v.s = vs at *
          clear hB hv UL J NU
          go_wp2_with fail
          go_roundg (md - (i + 1))
          case measure => have := hi.out; omega
          case rel => exact ⟨i + 1, by rw [Hid]; have := hi.out; omega, by go_num, PU⟩
        · have ili : ¬ (i : Int) < (md : Int) := by omega
          have J1 : Hid (Re.K6 w (Re.dwn md ++ Re.mk3 ms) ga gb ge gf g c md qc qd cc cd D R wE.heap.size wr) := by
            have := J.out
            rw [show i = md by have := hi.out; omega, Re.upd_all HN.out] at this
            exact this
          have V5 : Hid (Re.LV wr (some ⟨g, 0, none⟩) (Re.dwn md)) := J1.out.fu.lv
          clear J hi il
          go_wp2_with fail
          refine (SD.out _ _ _ V5.out).mono ?_
          rintro e wy ⟨gz, Q, rfl, ql, xz, soz, bz⟩
          have eQ : Q = Re.rev md := soz.uniq (Re.dwn_sorts HL.out)
          subst eQ
          have S11 : Hid (wE.heap.size ≤ gz ∧ gz < wy.heap.size) := ⟨Nat.le_trans J1.out.sz xz.bb, xz.lt⟩
          have M0 : Hid (Re.K6 w (Re.dwn md ++ Re.mk3 ms) ga gb ge gf g c md qc qd cc cd D R wE.heap.size wy ∧ Re.GR Re.ei 1 3 0 wy gz md (Re.rev md)) := ⟨J1.out.on bz, xz.b0⟩
          clear ql xz soz bz V5 J1
          go_wp2_with fail
          go_loopg [18] md (fun m iv wv => ∃ i : Nat, Hid (i + m = md) ∧ iv = .int .i64 (i : Int) ∧ Hid (Below wy.heap.size wy wv))
          case atStart => exact ⟨0, by rw [Hid]; omega, rfl, Below.refl _ _⟩
          case round =>
            obtain ⟨i, hi, rfl, Y⟩ := hrel
            by_cases il : i < md
            · have ili2 : (i : Int) < (md : Int) := by omega
              obtain ⟨dd, hdd⟩ : ∃ dd : Nat, (md : Int) - 1 - (i : Int) = (dd : Int) := ⟨md - 1 - i, by omega⟩
              have HD : Hid (dd = md - 1 - i) := by rw [Hid]; omega
              have cz := (M0.out.2.on Y.out).cell Re.ei_len (Re.rev_at il) 0 (by omega) _ rfl
              rw [Nat.mul_one, Nat.add_zero, ← HD.out] at cz
              go_wp2_with fail
              go_roundg (md - (i + 1))
              case measure => have := hi.out; omega
              case rel => exact ⟨i + 1, by rw [Hid]; have := hi.out; omega, by go_num, Y⟩
            · have ili2 : ¬ (i : Int) < (md : Int) := by omega
              have M1 := hid (And.intro (M0.out.1.on Y.out) (M0.out.2.on Y.out))
              have Z11 : Hid (wy.heap.size ≤ wr.heap.size) := Y.out.size
              clear Y M0 hi il
              go_wp2_with fail
              refine (SI.out _ _ _ _ _ M1.out.1.e.rd M1.out.1.f).mono ?_
              rintro e wq ⟨rfl, bq⟩
              have M2 := hid (And.intro (M1.out.1.on bq) (M1.out.2.on bq))
              have AQ : Hid (Calls Tryz.prog 11 #[.slice (some ⟨wq.heap.size, 0, none⟩) 6 6] (wq.alloc (.cells #[.slice (some ⟨ga, 0, none⟩) md md, .slice (some ⟨gb, 0, none⟩) md md, .slice qc mc cc, .slice qd md cd, .slice (some ⟨ge, 0, none⟩) md md, .slice (some ⟨gz, 0, none⟩) md md] 29)) fun e w' => e = .returned (.bool true) ∧ Below w.heap.size w w') := by
                have h4 := S4.out
                have h5 := S5.out
                have h6 := S6.out
                have h7 := Z7.out
                have h8 := Z8.out
                have h9 := S9.out
                have h10 := S10.out
                have h11 := S11.out
                have hL := HL.out
                have rl := RL.out
                have pl := PL.out
                have k := M2.out
                refine apart6 [(some ⟨ga, 0, none⟩, md, md), (some ⟨gb, 0, none⟩, md, md), (qc, mc, cc), (qd, md, cd), (some ⟨ge, 0, none⟩, md, md), (some ⟨gz, 0, none⟩, md, md)] (fun i => [wc.heap.size, w5.heap.size, w6.heap.size, w7.heap.size, w8.heap.size, wE.heap.size, wy.heap.size].getD i 0) w wq _ rfl rfl (fun i hi => ?_) (fun i hi => ?_) (fun i hi z e => ?_) (fun i hi => ?_) ?_ k.1.bl
                · rcases i with _ | _ | _ | _ | _ | _ | i
                  · exact ⟨D, .inr ⟨ga, rfl, k.1.a⟩, pl⟩
                  · exact ⟨D, .inr ⟨gb, rfl, k.1.b⟩, pl⟩
                  · exact ⟨R, k.1.c, rl.1⟩
                  · exact ⟨D, k.1.d, pl⟩
                  · exact ⟨D, .inr ⟨ge, rfl, k.1.e⟩, pl⟩
                  · exact ⟨Re.rev md, .inr ⟨gz, rfl, k.2⟩, by simp [Re.rev, Re.tl]⟩
                  · omega
                · rcases i with _ | _ | _ | _ | _ | _ | i
                  · exact hL
                  · exact hL
                  · exact Nat.le_trans rl.2 hL
                  · exact hL
                  · exact hL
                  · exact hL
                  · omega
                · rcases i with _ | _ | _ | _ | _ | _ | i
                  · have e2 : ga = z := by simp [Re.tq] at e; exact e
                    subst e2
                    exact h5
                  · have e2 : gb = z := by simp [Re.tq] at e; exact e
                    subst e2
                    exact h6
                  · exact S7.out z e
                  · exact S8.out z e
                  · have e2 : ge = z := by simp [Re.tq] at e; exact e
                    subst e2
                    show w8.heap.size ≤ ge ∧ ge < wE.heap.size
                    omega
                  · have e2 : gz = z := by simp [Re.tq] at e; exact e
                    subst e2
                    exact h11
                  · omega
                · rcases i with _ | _ | _ | _ | _ | _ | i
                  · show wc.heap.size ≤ w5.heap.size
                    omega
                  · show w5.heap.size ≤ w6.heap.size
                    omega
                  · exact h7
                  · exact h8
                  · show w8.heap.size ≤ wE.heap.size
                    omega
                  · show wE.heap.size ≤ wy.heap.size
                    omega
                  · omega
                · show w.heap.size ≤ wc.heap.size
                  omega
              clear bq M1 SI M2
              go_wp2_with fail
              refine AQ.out.mono ?_
              rintro e wz ⟨rfl, bz⟩
              have BZ := hid bz
              clear bz AQ
              go_wp2_with fail
              go_ret
              exact ⟨rfl, BZ.out⟩
end Go.Proofs.YtpmmbaahoegmlaaGreatDoor

namespace Go.Proofs.YtpmmbaahoegmlaaGreatDoor

theorem bulk_pos {H : Type} (d : DataW H) : 1 ≤ Rows.uptoBulk d := by
  rcases d with l | _ | _ | _ | _ | _ | _ | _
  · cases l <;> simp [Rows.uptoBulk]
  all_goals simp [Rows.uptoBulk]

theorem bulk_all {H : Type} : ∀ l : List (DataW H), l.length ≤ Rows.uptoBulkAll l
  | [] => Nat.zero_le _
  | d :: r => by
    have h1 := bulk_pos d
    have h2 := bulk_all r
    simp only [Rows.uptoBulkAll, List.length_cons]
    omega

theorem bulk_slice {H : Type} (es sp : List (DataW H)) : es.length ≤ Rows.uptoBulk (.slice es sp) := by
  have := bulk_all es
  simp only [Rows.uptoBulk]
  omega
end Go.Proofs.YtpmmbaahoegmlaaGreatDoor

namespace Go.Proofs.YtpmmbaahoegmlaaGreatDoor
open Go Go.RowKit Go.Deep Go.ChangeShapes Go.WideShapes Go.ChangeAt

namespace Va
structure Vl where
  k : Int
  n : Int
  s : List Int
end Va
def VlW (a : Va.Vl) : Prop := (∀ x ∈ a.s, 0 ≤ x ∧ x < 256) ∧ (0 ≤ a.n ∧ a.n < 18446744073709551616) ∧ a.s.length ≤ 140737488351232
def VCells (w : World) (b o : Nat) (a : Va.Vl) : Prop := w.cell? ⟨b, o, none⟩ = some (.int .i64 a.k) ∧ w.cell? ⟨b, o + 1, none⟩ = some (.int .u64 a.n) ∧ w.cell? ⟨b, o + 2, none⟩ = some (.string (strOfNums a.s))
def LV (w : World) (p : Option Addr) (A : List Va.Vl) : Prop := A = [] ∨ ∃ b off, p = some ⟨b, off, none⟩ ∧ ∀ i a, A[i]? = some a → VCells w b (off + i * 3) a
theorem vcell_below {B : Nat} {w w' : World} {a : Addr} {v : Value} (h : w.cell? a = some v) (k : Below B w w') (hb : a.block < B) : w'.cell? a = some v := by
  rw [← h]; exact k.cell hb
theorem VCells.below {w w' : World} {b o : Nat} {a : Va.Vl} (h : VCells w b o a) (k : Below w.heap.size w w') : VCells w' b o a := by
  obtain ⟨c0, c1, c2⟩ := h
  exact ⟨vcell_below c0 k (cell_lt c0), vcell_below c1 k (cell_lt c1), vcell_below c2 k (cell_lt c2)⟩
theorem LV.below {w w' : World} {p : Option Addr} {A : List Va.Vl} (h : LV w p A) (k : Below w.heap.size w w') : LV w' p A := by
  rcases h with h | ⟨b, off, e, h⟩
  · exact .inl h
  · exact .inr ⟨b, off, e, fun i a hi => (h i a hi).below k⟩

theorem vbulk_mem {H : Type} : ∀ {l : List (DataW H)} {d : DataW H}, d ∈ l → Rows.uptoBulk d ≤ Rows.uptoBulkAll l
  | [], _, h => by simp at h
  | x :: r, d, h => by
    simp only [Rows.uptoBulkAll]
    rcases List.mem_cons.1 h with rfl | h
    · omega
    · have := vbulk_mem h
      omega

theorem vall_mem {H : Type} {P : Program} {e : TypeId} : ∀ {l : List (DataW H)} {d : DataW H}, d ∈ l → ∀ n ∈ d.weights P e, n ∈ DataW.weightsAll P e l
  | [], _, h, _, _ => by simp at h
  | x :: r, d, h, n, hn => by
    simp only [DataW.weightsAll, List.mem_append]
    rcases List.mem_cons.1 h with rfl | h
    · exact .inl hn
    · exact .inr (vall_mem h n hn)

/-- What can be told of each place can be told of a list. -/
theorem vlist_of_each {α : Type} {Q : Nat → α → Prop} : ∀ n, (∀ i, i < n → ∃ x, Q i x) → ∃ l : List α, l.length = n ∧ ∀ i x, l[i]? = some x → Q i x
  | 0, _ => ⟨[], rfl, by simp⟩
  | n + 1, h => by
    obtain ⟨l, h1, h2⟩ := vlist_of_each n (fun i hi => h i (by omega))
    obtain ⟨x, hx⟩ := h n (by omega)
    refine ⟨l ++ [x], by simp [h1], fun i y hy => ?_⟩
    by_cases hi : i < l.length
    · rw [List.getElem?_append_left hi] at hy
      exact h2 i y hy
    · have hlt := (List.getElem?_eq_some_iff.1 hy).1
      simp only [List.length_append, List.length_cons, List.length_nil] at hlt
      obtain rfl : i = n := by omega
      rw [List.getElem?_append_right (by omega), h1, Nat.sub_self] at hy
      simp at hy
      subst hy
      exact hx

theorem vlist3 {α : Type} {l : List α} (h : l.length = 3) : ∃ c0 c1 c2, l = [c0, c1, c2] := by
  match l, h with
  | [c0, c1, c2], _ => exact ⟨c0, c1, c2, rfl⟩

theorem open_val_cells {H : Type} {enc : TypeId × Value → H} {W : World} {fuel : Nat} {a0 a1 a2 : Value} {x : DataW H × List MemPlace} (hf : DataW.trod enc Tryz.prog W 0 (fun _ => true) true fuel 26 [a0, a1, a2] = some x)
    (hsz : ∀ n ∈ x.1.weights Tryz.prog 26, n ≤ reachBytes) :
    ∃ q : Va.Vl, (a0 = .int .i64 q.k ∧ a1 = .int .u64 q.n ∧ a2 = .string (strOfNums q.s)) ∧ VlW q ∧ q.s.length ≤ Rows.uptoBulk x.1 := by
  obtain ⟨xs, n, _, hx, _, hlen, hfs⟩ := DataW.trod_struct Tryz.underlying26 hf
  obtain ⟨y0, y1, y2, rfl⟩ := vlist3 hlen
  have c4 : Tryz.prog.cellsOf 3 = 1 := by kernel_rfl
  have c6 : Tryz.prog.cellsOf 24 = 1 := by kernel_rfl
  have cs : Tryz.prog.cellsOf 9 = 1 := by kernel_rfl
  have f0 : DataW.trod enc Tryz.prog W 0 (fun _ => true) true n 3 [a0] = some y0 := by simpa [c4] using hfs 0 _ rfl
  have f1 : DataW.trod enc Tryz.prog W 0 (fun _ => true) true n 24 [a1] = some y1 := by simpa [c6] using hfs 1 _ rfl
  have f2 : DataW.trod enc Tryz.prog W 0 (fun _ => true) true n 9 [a2] = some y2 := by simpa [cs] using hfs 2 _ rfl
  have hd : x.1 = .agg [y0.1, y1.1, y2.1] := by rw [hx]; rfl
  obtain ⟨bx, e0, _, w0⟩ := DataW.trod_int Tryz.underlying3 f0
  obtain ⟨v, e1, _, w1⟩ := DataW.trod_int Tryz.underlying24 f1
  obtain ⟨s, e2, q2, _⟩ := DataW.trod_string Tryz.underlying9 f2
  have hs : s.data.toList.length ≤ reachBytes := by
    refine hsz _ ?_
    rw [hd]
    simp only [DataW.weights, Tryz.underlying26]
    refine DataW.weights_mem_each (ts := [3, 24, 9]) (ds := [y0.1, y1.1, y2.1]) (j := 2) (t := 9) (d := y2.1) rfl rfl _ ?_
    rw [q2]
    simp [DataW.weights]
  have hb : s.data.toList.length ≤ Rows.uptoBulk x.1 := by
    rw [hd, q2]
    simp only [Rows.uptoBulk, Rows.uptoBulkAll]
    simp
    omega
  have b1 := bounds_u64 w1
  refine ⟨⟨bx, v, s.data.toList.map (fun b => (b.toNat : Int))⟩, ⟨(List.cons.inj e0).1, (List.cons.inj e1).1, ?_⟩, ⟨fun x hx => (Str.self s).mem hx, ⟨b1.1, Int.lt_of_le_of_lt b1.2 (by decide)⟩, ?_⟩, ?_⟩
  · rw [(List.cons.inj e2).1, ← str_of (Str.self s)]
  · rw [List.length_map]; exact Nat.le_trans hs (by decide)
  · rw [List.length_map]; exact hb

theorem varray3 {α : Type} {cs : Array α} (h : cs.size = 3) : ∃ c0 c1 c2, cs = #[c0, c1, c2] := by
  obtain ⟨l⟩ := cs
  match l, h with
  | [c0, c1, c2], _ => exact ⟨c0, c1, c2, rfl⟩

set_option maxRecDepth 100000 in
theorem open_val {H : Type} {enc : TypeId × Value → H} {W : World} {base : Nat} {v : Value} {d : DataW H} {p : List MemPlace} (hv : Value.okWide Tryz.prog W .any base 26 v) (h : DataW.Trod enc Tryz.prog W 0 (fun _ => true) true 26 v d p)
    (hsz : ∀ n ∈ d.weights Tryz.prog 26, n ≤ reachBytes) :
    ∃ q : Va.Vl, v = .agg #[.int .i64 q.k, .int .u64 q.n, .string (strOfNums q.s)] ∧ VlW q ∧ q.s.length ≤ Rows.uptoBulk d := by
  obtain ⟨cs, rfl, hs7⟩ := okWide_struct Tryz.underlying26 hv
  obtain ⟨a0, a1, a2, rfl⟩ := varray3 (hs7.trans (show Tryz.prog.cellsOf 26 = 3 by kernel_rfl))
  obtain ⟨fuel, hf⟩ := h
  have hf' : DataW.trod enc Tryz.prog W 0 (fun _ => true) true fuel 26 [a0, a1, a2] = some (d, p) := by simpa [Value.cells] using hf
  obtain ⟨q, ⟨e0, e1, e2⟩, h1, h3⟩ := open_val_cells (x := (d, p)) hf' hsz
  rw [e0, e1, e2]
  exact ⟨q, rfl, h1, h3⟩

set_option maxRecDepth 100000 in
theorem open_vals {H : Type} {enc : TypeId × Value → H} {W : World} {a : Option Addr} {len cap : Nat} {d : DataW H} {p : List MemPlace} (h : DataW.Trod enc Tryz.prog W 0 (fun _ => true) true 22 (.slice a len cap) d p)
    (hsz : ∀ n ∈ d.weights Tryz.prog 22, n ≤ reachBytes) : ∃ ps : List Va.Vl, ps.length = len ∧ LV W a ps ∧ (∀ q ∈ ps, VlW q) ∧ (∀ q ∈ ps, q.s.length ≤ Rows.uptoBulk d) ∧ len ≤ cap ∧ len ≤ 4398046511104 ∧ len ≤ Rows.uptoBulk d ∧ (a = none → cap = 0) ∧ cap ≤ 4398046511104 := by
  obtain ⟨fuel, hf⟩ := h
  rcases DataW.trod_slice Tryz.underlying22 hf with ⟨hcs, _⟩ | ⟨x, l, c, elems, rest, n, _, hcs, hx, _, hl, hm, he, hel, hsp, _⟩
  · simp [Value.cells] at hcs
    obtain ⟨rfl, rfl, rfl⟩ := hcs
    exact ⟨[], rfl, .inl rfl, by intro it h; simp at h, by intro it h; simp at h, by omega, by omega, by omega, fun _ => rfl, by omega⟩
  · simp [Value.cells] at hcs
    obtain ⟨rfl, rfl, rfl⟩ := hcs
    have hd : d = .slice (elems.map (·.1)) (rest.map (·.1)) := (Prod.mk.inj hx).1
    have hw : ∀ n ∈ (DataW.slice (elems.map (·.1)) (rest.map (·.1)) : DataW H).weights Tryz.prog 22, n ≤ reachBytes := by rw [← hd]; exact hsz
    simp only [DataW.weights, Tryz.underlying22] at hw
    have hr := hw _ List.mem_cons_self
    rw [show Tryz.prog.bytesOf 26 = 32 by kernel_rfl] at hr
    have hrl := (hsp rfl).1
    simp only [List.length_map, reachBytes] at hr
    have hbl : len ≤ Rows.uptoBulk d := by
      rw [hd]
      refine Nat.le_trans ?_ (bulk_slice _ _)
      rw [List.length_map]; omega
    rw [show Tryz.prog.cellsOf 26 = 3 by kernel_rfl] at hel
    obtain ⟨its, i1, i2⟩ := vlist_of_each (Q := fun i (it : Va.Vl) => (W.cell? (x.add (i * 3)) = some (.int .i64 it.k) ∧ W.cell? ((x.add (i * 3)).add 1) = some (.int .u64 it.n) ∧ W.cell? ((x.add (i * 3)).add 2) = some (.string (strOfNums it.s))) ∧ VlW it ∧ it.s.length ≤ Rows.uptoBulk d) len (fun i hi => by
      have h1 := hel i hi
      have h2 : elems[i]? = some elems[i] := List.getElem?_eq_getElem (by omega)
      rw [h2] at h1
      obtain ⟨cs, h3, h4⟩ := Option.bind_eq_some_iff.1 h1
      obtain ⟨_, h5, h6⟩ := World.cells?_some h3
      obtain ⟨v0, v1, v2, rfl⟩ := vlist3 h5
      have e0 := h6 0 (by omega)
      have e1 := h6 1 (by omega)
      have e2 := h6 2 (by omega)
      have h8 : (x.add (i * 3)).add 0 = x.add (i * 3) := by simp [Addr.add]
      rw [h8] at e0
      obtain ⟨q, ⟨q0, q1, q2⟩, hA, hC⟩ := open_val_cells h4 (fun m hm => hw m (List.mem_cons_of_mem _ (List.mem_append_left _ (vall_mem (List.mem_map.2 ⟨elems[i], List.getElem_mem _, rfl⟩) m hm))))
      subst q0 q1 q2
      refine ⟨q, ⟨e0, e1, e2⟩, hA, Nat.le_trans hC ?_⟩
      have := vbulk_mem (l := elems.map (·.1)) (d := elems[i].1) (List.mem_map.2 ⟨elems[i], List.getElem_mem _, rfl⟩)
      rw [hd]
      simp only [Rows.uptoBulk]
      omega)
    refine ⟨its, i1, ?_, ?_, ?_, by omega, by omega, hbl, fun q => by simp at q, by omega⟩
    · rcases Nat.eq_zero_or_pos its.length with h0 | h0
      · exact .inl (List.eq_nil_of_length_eq_zero h0)
      · obtain ⟨b, off, spot⟩ := x
        have hspot : spot = none := by simpa [Addr.add] using World.cell?_spot (i2 0 _ (List.getElem?_eq_getElem h0)).1.1
        subst hspot
        refine .inr ⟨b, off, rfl, fun i it hi => ?_⟩
        obtain ⟨⟨q0, q1, q2⟩, _⟩ := i2 i it hi
        simp only [Go.WideShapes.add_plain] at q0 q1 q2
        exact ⟨q0, q1, q2⟩
    · intro it hit
      obtain ⟨i, hi⟩ := List.getElem?_of_mem hit
      exact (i2 i it hi).2.1
    · intro it hit
      obtain ⟨i, hi⟩ := List.getElem?_of_mem hit
      exact (i2 i it hi).2.2
def LS (w : World) (a : Option Addr) (its : List ByteArray) : Prop := its = [] ∨ ∃ b off, a = some ⟨b, off, none⟩ ∧ ∀ i it, its[i]? = some it → w.cell? ⟨b, off + i, none⟩ = some (.string it)
theorem LS.below {w w' : World} {p : Option Addr} {A : List ByteArray} (h : LS w p A) (k : Below w.heap.size w w') : LS w' p A := by
  rcases h with h | ⟨b, off, e, h⟩
  · exact .inl h
  · exact .inr ⟨b, off, e, fun i a hi => vcell_below (h i a hi) k (cell_lt (h i a hi))⟩

/-- The same in relate's words. -/
theorem lv_re {w : World} {p : Option Addr} {A : List Va.Vl} (h : LV w p A) : Re.LV w p (A.map fun q => ⟨q.k, q.n, strOfNums q.s⟩) := by
  rcases h with rfl | ⟨b, off, e, h⟩
  · exact .inl rfl
  · refine .inr ⟨b, off, e, fun i a hi => ?_⟩
    rw [List.getElem?_map] at hi
    obtain ⟨q, hq, rfl⟩ := Option.map_eq_some_iff.1 hi
    exact h i q hq
end Go.Proofs.YtpmmbaahoegmlaaGreatDoor

namespace Go.Proofs.YtpmmbaahoegmlaaGreatDoor
open Go Go.RowKit Go.Deep Go.Shelf

theorem rkeeps_vals (p : Option Addr) (cap : Nat) (z : List Va.Vl) (k : Int) (w : World) (ht : Tab10 w) (hv : LV w p z) (hw : ∀ q ∈ z, VlW q) (hl : z.length ≤ 4398046511104) (hk : k ≤ 9223372036854775807) :
    Calls Tryz.prog 3 #[.slice p z.length cap, .int .i64 k] w fun e w' => e = .returned (.bool true) ∧ Below w.heap.size w w' := by
  have h := rkeeps_law p cap (z.map fun q => ⟨q.k, q.n, strOfNums q.s⟩) k w ht (lv_re hv) (fun a ha => by
    obtain ⟨q, hq, rfl⟩ := List.mem_map.1 ha
    exact (hw q hq).2.1) (by rw [List.length_map]; omega) hk
  rw [List.length_map] at h
  exact h
end Go.Proofs.YtpmmbaahoegmlaaGreatDoor

namespace Go.Proofs.YtpmmbaahoegmlaaGreatDoor
open Go Go.RowKit Go.Deep

theorem tab_laid : (Rows.laid_math_bits_deBruijn64tab : DataW Unit) = Lib.tabData .u8 (List.map Int.ofNat Lib.deBruijn64tab) := by kernel_rfl

theorem tab_of {W : World} {rest : List (String × DataW Unit)} (h : laidMet Tryz.prog (("math/bits.deBruijn64tab", Rows.laid_math_bits_deBruijn64tab) :: rest) W) : Tab W := by
  rw [tab_laid] at h
  have ht := Lib.tabIs_of_head (g := 5) (t := 279) (e := 5) (n := 64) (k := .u8) (zs := List.map Int.ofNat Lib.deBruijn64tab) (by kernel_rfl) (by kernel_rfl) Tryz.underlying279 Tryz.underlying5 (by kernel_rfl) (by kernel_rfl) h
  intro j hj
  have hl : (List.map Int.ofNat Lib.deBruijn64tab).length = Lib.deBruijn64tab.length := by simp
  rw [ht.cell (g := 5) (by kernel_rfl) j (by omega)]
  simp [List.getD, hj]

end Go.Proofs.YtpmmbaahoegmlaaGreatDoor

namespace Go.Proofs.YtpmmbaahoegmlaaGreatDoor
open Go Go.RowKit Go.Deep

theorem laid_tail12 {P : Program} {W : World} {x : String × DataW Unit} {rest : List (String × DataW Unit)} (h : laidMet P (x :: rest) W) : laidMet P rest W := by
  obtain ⟨ps, ⟨g, t, cs, fuel, p, q, _, _, _, _, hr, rfl⟩, hn, hc⟩ := h
  exact ⟨q, hr, (List.nodup_append.1 hn).2.1, fun b off hm => hc b off (List.mem_append_right _ hm)⟩

theorem pow_laid12 : (Rows.laid_internal_strconv_uint64pow10 : DataW Unit) = Lib.tabData .u64 Lib.pow10Tab := by kernel_rfl

theorem tables12 {W : World} {a : String × DataW Unit} {rest : List (String × DataW Unit)} (h : laidMet Tryz.prog (a :: ("math/bits.deBruijn64tab", Rows.laid_math_bits_deBruijn64tab) :: ("internal/strconv.uint64pow10", Rows.laid_internal_strconv_uint64pow10) :: rest) W) : Tab W ∧ Tab10 W := by
  have h1 := laid_tail12 h
  have h2 := laid_tail12 h1
  rw [pow_laid12] at h2
  exact ⟨tab_of h1, Lib.tabIs_of_head (g := 1) (t := 242) (e := 24) (n := 20) (by kernel_rfl) (by kernel_rfl) Tryz.underlying242 Tryz.underlying24 (by kernel_rfl) (by kernel_rfl) h2⟩
end Go.Proofs.YtpmmbaahoegmlaaGreatDoor
