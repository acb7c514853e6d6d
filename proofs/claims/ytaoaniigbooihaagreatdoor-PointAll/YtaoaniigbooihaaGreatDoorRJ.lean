/-
  Texts put together: PoR6, VItoa, PoR7, PoR8, PoR9, OpenSpc, OpenOps15, PoLaw0.
-/
import Derived.Test.YtaoaniigbooihaaGreatDoorRI
import Derived.BigQuiet
import Derived.Test.YtaoaniigbooihaaGreatDoorRC
import Derived.Shelf.Strconv.Itoa3
import Derived.Test.YtaoaniigbooihaaGreatDoorRG
import Derived.Deep.DeepCutAuto
import Derived.Deep.CutBlock
import Derived.Deep.RegionHeld3
import Derived.Test.YtaoaniigbooihaaGreatDoorRE
import Derived.SizedLaws
import Derived.ProofKit
namespace Go.Proofs.YtaoaniigbooihaaGreatDoor
open Go Go.RowKit Go.Deep Go.Shelf

set_option maxRecDepth 100000 in
set_option maxHeartbeats 4000000 in
theorem xfixed_any (d : Int) (n : Nat) (w : World) (h0 : 0 ≤ d) (h1 : d < 18446744073709551616) (hf : Ie.fnt d = true) (hn : n ≤ 4200) :
    Calls Tryz.prog 86 #[.int .u64 d, .int .i64 (n : Int)] w fun e w' => e = .returned (.tuple #[.string (strOfNums (Fx.pA d n)), .string (strOfNums (Fx.pB d n))]) ∧ Below w.heap.size w w' := by
  have RD := hid (xrounded_any d n w h0 h1 hf (by omega) (by omega))
  unfold RdTold at RD
  rw [Po.rnd_W hf n] at RD
  have r : Fx.rf d n 0 = 0 := Fx.rf_zero.2 ⟨hf, by omega, by omega⟩
  have wl := Fx.W_len d n
  have wd := Fx.W_digs hf n
  have wr := Fx.dv_W_room hf (n := n) hn
  have eA : Fx.pA d n = (Fx.W d n).take ((Fx.W d n).length - n) := by rw [Fx.pA, if_pos r, Int.toNat_natCast]
  have eB : Fx.pB d n = (Fx.W d n).drop ((Fx.W d n).length - n) := by rw [Fx.pB, if_pos r, Int.toNat_natCast]
  have X1 := ext_head (Po.digs_by wd) ((Fx.W d n).length - n)
  have X2 := ext_tail (Po.digs_by wd) ((Fx.W d n).length - n)
  rw [← eA] at X1
  rw [← eB] at X2
  have sz : (strOfNums (Fx.W d n)).size = (Fx.W d n).length := strOfNums_size _
  have ZR := hid (fun k W' (hk : k ≤ 100000) (hk0 : -9223372036854775808 ≤ k) => xzeros_any k W' hk hk0)
  have G : Hid (∀ xs, Po.RdT (dv (Fx.W d n)) xs → strOfNums (Wh.rep 48 ((n : Int) + 1 - (xs.length : Int))) ++ strOfNums xs = strOfNums (Fx.W d n) ∧ (n < xs.length → strOfNums xs = strOfNums (Fx.W d n)) ∧ xs.length ≤ (Fx.W d n).length) := by
    intro xs h
    have e := Po.rdt_W hf h
    have hl : xs.length ≤ (Fx.W d n).length := by rw [← e, List.length_append]; omega
    refine ⟨?_, fun c => ?_, hl⟩
    · rw [xapp (Wh.By.rep (by omega)) (Po.digs_by h.digs), ← e]
      unfold Wh.rep
      rw [show ((n : Int) + 1 - (xs.length : Int)).toNat = n + 1 - xs.length by omega]
    · rw [show n + 1 - xs.length = 0 by omega] at e
      rw [← e]; rfl
  obtain ⟨L, hL⟩ : ∃ L, (Fx.W d n).length = L := ⟨_, rfl⟩
  obtain ⟨k, hk⟩ : ∃ k, L - n = k := ⟨_, rfl⟩
  rw [hL, hk] at X1 X2
  rw [hL] at sz wl wr
  have sL : Hid (∀ xs, Po.RdT (dv (Fx.W d n)) xs → xs.length ≤ L) := fun xs h => by have := (G.out xs h).2.2; omega
  have B0 : Hid (∀ w' k, Below w.heap.size w w' → Below w.heap.size w (w'.drewN k)) := fun w' k h => below_drewN h k
  have hLn : (L : Int) - (n : Int) = (k : Int) := by omega
  have hkL : (k : Int) ≤ (L : Int) := by omega
  have hLb : (L : Int) ≤ 6000 := by omega
  have hni : (n : Int) ≤ 4200 := by omega
  have hkk : k ≤ L := by omega
  clear hL hk eA eB wd r hf h0 h1 wr wl
  generalize strOfNums (Fx.pA d n) = ra at *
  generalize strOfNums (Fx.pB d n) = rb at *
  generalize strOfNums (Fx.W d n) = ws at *
  go_enter Tryz.func86, Tryz.ntmps86
  go_wp2_with fail
  with_reducible refine RD.out.mono ?_
  rintro e w1 ⟨xs, rfl, hx, b1⟩
  obtain ⟨g1, g2, g3⟩ := G.out xs hx
  have xl := sL.out xs hx
  have xz : (strOfNums xs).size = xs.length := strOfNums_size xs
  have B1 := hid b1
  clear b1 RD G sL hx
  by_cases c : xs.length ≤ n
  · have ci : (xs.length : Int) ≤ (n : Int) := by omega
    have Z := hid (ZR.out ((n : Int) + 1 - (xs.length : Int)) w1 (by omega) (by omega))
    have z1 : ((strOfNums (Wh.rep 48 ((n : Int) + 1 - (xs.length : Int)))).size : Int) ≤ 6000 := by rw [strOfNums_size, Wh.rep_len]; omega
    clear g2 g3 ZR c
    have xb : (xs.length : Int) ≤ 6000 := by omega
    generalize strOfNums (Wh.rep 48 ((n : Int) + 1 - (xs.length : Int))) = zs at *
    generalize xs.length = T at *
    generalize strOfNums xs = ss at *
    go_wp2_with fail
    with_reducible refine Z.out.mono ?_
    rintro e w2 ⟨rfl, b2⟩
    have B2 := hid (below_on B1.out b2)
    clear b2 B1 Z
    go_upto_region 4 with fail
    go_quiet (fail)
    go_wp2_with fail
    go_ret2
    exact ⟨rfl, B0.out _ _ B2.out⟩
  · have ci : ¬ (xs.length : Int) ≤ (n : Int) := by omega
    have e := g2 (by omega)
    clear g1 g2 g3 ZR c
    have xb : (xs.length : Int) ≤ 6000 := by omega
    have xsz : ws.size = xs.length := by rw [← e]; exact xz
    have tL : xs.length = L := by omega
    rw [e]
    rw [tL] at ci xb
    clear e xz xsz xl tL
    go_upto_region 4 with fail
    go_quiet (fail)
    go_wp2_with fail
    go_ret2
    exact ⟨rfl, B0.out _ _ B1.out⟩

set_option maxRecDepth 100000 in
set_option maxHeartbeats 4000000 in
theorem xfigures_any (d : Int) (p : Nat) (w : World) (h0 : 0 ≤ d) (h1 : d < 18446744073709551616) (hf : Ie.fnt d = true) (hp : p ≤ 4100) :
    Calls Tryz.prog 88 #[.int .u64 d, .int .i64 (p : Int)] w fun e w' => e = .returned (.tuple #[.string (strOfNums (Fx.gS d ((p : Int) + 1))), .int .i64 (Fx.gK d ((p : Int) + 1))]) ∧ Below w.heap.size w w' := by
  obtain ⟨m0, m1, e0, e1, _⟩ := Ie.fdec d (of_decide_eq_true hf)
  have D := hid (zdecode_any d w h0 h1)
  have hpi : (p : Int) ≤ 4100 := by omega
  rcases (show Ie.dm d = 0 ∨ 0 < Ie.dm d by omega) with hm | hm
  · obtain ⟨f1, f2⟩ := Fx.fig_zero hf hm (k := p + 1) (by omega) (by omega)
    rw [show ((p + 1 : Nat) : Int) = (p : Int) + 1 by omega] at f1 f2
    rw [f1, f2]
    have ZR := hid (fun W' => xzeros_any ((p : Int) + 1) W' (by omega) (by omega))
    rw [show Wh.rep 48 ((p : Int) + 1) = List.replicate (p + 1) 48 by unfold Wh.rep; congr 1] at ZR
    rw [hm] at D
    simp only [partsOf] at D
    generalize decide (9223372036854775808 ≤ d) = neg at *
    clear m0 m1 e0 e1 hf hm f1 f2
    generalize Ie.cls d = cc at *
    generalize Ie.de d = x at *
    generalize strOfNums (List.replicate (p + 1) 48) = R at *
    go_enter Tryz.func88, Tryz.ntmps88
    go_wp2_with fail
    with_reducible refine D.out.mono ?_
    rintro e w1 ⟨rfl, b1⟩
    have B1 := hid b1
    clear b1 D
    go_wp2_with fail
    with_reducible refine (ZR.out _).mono ?_
    rintro e w2 ⟨rfl, b2⟩
    have B2 := hid (below_on (Below.alloc B1.out B1.out.size _) b2)
    clear b2 B1 ZR
    go_wp2_with fail
    go_ret2
    exact ⟨rfl, B2.out⟩
  · have r : Fx.rf d ((p : Int) + 1) 1 = 0 := Fx.rf_zero.2 ⟨hf, by omega, by omega⟩
    obtain ⟨x1, x2, x3, x4, x5⟩ := Fx.X_room hf
    have tk : Po.tK d = (Fx.X d).length - 1 + Fx.P d := rfl
    have k0 : -400 ≤ Po.tK d := by omega
    have k1 : Po.tK d ≤ 400 := by omega
    have TN := hid (fun W' => xtens_any (Ie.dm d) (Ie.de d) (Po.tK d) W' hm (by omega) (by omega) (by omega) (fun k _ _ => Po.atl_K hf hm k) k0 k1)
    have RD := hid (fun W' => xrounded_any d ((p : Int) - Po.tK d) W' h0 h1 hf (by omega) (by omega))
    unfold RdTold at RD
    rw [show (p : Int) - Po.tK d = ((p + 1 : Nat) : Int) - 1 - Po.tK d by omega, Po.rnd_G hf hm (n := p + 1), show ((p + 1 : Nat) : Int) - 1 - Po.tK d = (p : Int) - Po.tK d by omega] at RD
    have G : Hid (∀ xs, Po.RdT (dv (Fx.kp (Fx.X d) ((p + 1 : Nat) : Int))) xs → xs = Fx.kp (Fx.X d) ((p + 1 : Nat) : Int)) := fun xs h => Po.rdt_G hf hm (by omega) h
    have eS : Fx.gS d ((p : Int) + 1) = (Fx.kp (Fx.X d) ((p + 1 : Nat) : Int)).take (p + 1) := by
      rw [Fx.gS, if_pos r]
      congr 1
    have eK : Fx.gK d ((p : Int) + 1) = Po.tK d + (if (p : Int) + 1 < (Fx.kp (Fx.X d) ((p + 1 : Nat) : Int)).length then 1 else 0) := by
      rw [Fx.gK, if_pos r]
      rfl
    have kl : (Fx.kp (Fx.X d) ((p + 1 : Nat) : Int)).length ≤ 6001 := Fx.kp_len_le (m := 6000) (by omega) (by omega)
    have kd : Digs (Fx.kp (Fx.X d) ((p + 1 : Nat) : Int)) ∧ p + 1 ≤ (Fx.kp (Fx.X d) ((p + 1 : Nat) : Int)).length := by
      have fl := (Po.fgF hf (n := (p : Int) + 1) (by omega) (by omega)).len
      rw [eS, List.length_take] at fl
      refine ⟨?_, by omega⟩
      rcases Nat.lt_or_ge (p + 1) (Fx.X d).length with c | c
      · rw [Fx.kp_cut c]; exact Fx.rd_digs _ _
      · rw [Fx.kp_full c]
        intro y q
        rcases List.mem_append.1 q with q | q
        · exact (Fx.X_digs hf).1 y q
        · have := List.eq_of_mem_replicate q; omega
    obtain ⟨kd1, kd2⟩ := kd
    have X1 := ext_head (Po.digs_by kd1) (p + 1)
    rw [← eS] at X1
    have ET : Hid ((Fx.kp (Fx.X d) ((p + 1 : Nat) : Int)).length = p + 1 → strOfNums (Fx.kp (Fx.X d) ((p + 1 : Nat) : Int)) = strOfNums (Fx.gS d ((p : Int) + 1))) := fun c => by rw [eS, List.take_of_length_le (by omega)]
    have sz : (strOfNums (Fx.kp (Fx.X d) ((p + 1 : Nat) : Int))).size = (Fx.kp (Fx.X d) ((p + 1 : Nat) : Int)).length := strOfNums_size _
    have mne : (Ie.dm d == 0) = false := by rw [beq_eq_false_iff_ne]; omega
    have E1 : Hid ((p : Int) + 1 < (Fx.kp (Fx.X d) ((p + 1 : Nat) : Int)).length → Fx.gK d ((p : Int) + 1) = Po.tK d + 1) := fun c => by rw [eK, if_pos c]
    have E2 : Hid ((Fx.kp (Fx.X d) ((p + 1 : Nat) : Int)).length = p + 1 → Fx.gK d ((p : Int) + 1) = Po.tK d) := fun c => by rw [eK, if_neg (by omega), Int.add_zero]
    generalize Fx.gK d ((p : Int) + 1) = Q at *
    generalize Fx.kp (Fx.X d) ((p + 1 : Nat) : Int) = ks at *
    generalize strOfNums (Fx.gS d ((p : Int) + 1)) = R at *
    clear eS eK tk x1 x2 x3 x4 x5 r kd1 hf e0 e1 m0 m1 hm h0 h1
    simp only [partsOf] at D
    generalize decide (9223372036854775808 ≤ d) = neg at *
    generalize Ie.cls d = cc at *
    generalize Ie.dm d = m at *
    generalize Ie.de d = x at *
    generalize Po.tK d = K at *
    generalize hT : ks.length = T at *
    have hTb : (T : Int) ≤ 6001 := by omega
    go_enter Tryz.func88, Tryz.ntmps88
    go_wp2_with fail
    with_reducible refine D.out.mono ?_
    rintro e w1 ⟨rfl, b1⟩
    have B1 := hid b1
    clear b1 D
    go_wp2_with fail
    with_reducible refine (TN.out _).mono ?_
    rintro e w2 ⟨rfl, b2⟩
    have B2 := hid (below_on (Below.alloc B1.out B1.out.size _) b2)
    clear b2 B1 TN
    go_wp2_with fail
    with_reducible refine (RD.out _).mono ?_
    rintro e w3 ⟨xs, rfl, hx, b3⟩
    have hxs := G.out xs hx
    subst hxs
    have B3 := hid (below_on B2.out b3)
    clear b3 B2 RD G hx
    by_cases c : p + 1 < T
    · have ci : (p : Int) + 1 < (T : Int) := by omega
      have cj : ((p + 1 : Nat) : Int) = (p : Int) + 1 := by omega
      have EQ := hid (E1.out ci)
      clear ET hT E1 E2
      generalize strOfNums xs = ss at *
      go_wp2_with fail
      go_ret2
      exact ⟨by rw [EQ.out]; rfl, B3.out⟩
    · have ci : ¬ (p : Int) + 1 < (T : Int) := by omega
      have e := ET.out (by omega)
      have sR : R.size = T := by rw [← e]; exact sz
      have EQ := hid (E2.out (by omega))
      rw [e]
      clear ET hT sz X1 e E1 E2
      go_wp2_with fail
      go_ret2
      exact ⟨by rw [EQ.out]; rfl, B3.out⟩
end Go.Proofs.YtaoaniigbooihaaGreatDoor

namespace Go.Proofs.YtaoaniigbooihaaGreatDoor
open Go Go.RowKit Go.Deep Go.Shelf

def itoaLays_ren : Go.Shelf.Ren := ⟨fun | 171 => 120 | 243 => 149 | 246 => 177 | 283 => 203 | 284 => 204 | 285 => 205 | 286 => 206 | 129 => 135 | 317 => 218 | 318 => 219 | 319 => 220 | 320 => 221 | 337 => 229 | 338 => 72 | n => n, fun | 3 => 3 | 9 => 9 | 2 => 2 | 4 => 4 | 171 => 220 | 0 => 0 | 53 => 26 | 37 => 47 | 5 => 5 | 173 => 222 | 212 => 235 | 51 => 148 | 20 => 20 | 213 => 236 | 46 => 120 | 232 => 244 | 233 => 139 | n => n, fun | 17 => 5 | 18 => 8 | 19 => 0 | n => n⟩
theorem itoaLays : Go.Proofs.LaysM.n171 Tryz.prog itoaLays_ren := {
  mixed := by kernel_rfl
  f129 := Tryz.func135.trans (congrArg some (by kernel_rfl))
  f171 := Tryz.func120.trans (congrArg some (by kernel_rfl))
  f243 := Tryz.func149.trans (congrArg some (by kernel_rfl))
  f246 := Tryz.func177.trans (congrArg some (by kernel_rfl))
  f283 := Tryz.func203.trans (congrArg some (by kernel_rfl))
  f284 := Tryz.func204.trans (congrArg some (by kernel_rfl))
  f285 := Tryz.func205.trans (congrArg some (by kernel_rfl))
  f286 := Tryz.func206.trans (congrArg some (by kernel_rfl))
  f317 := Tryz.func218.trans (congrArg some (by kernel_rfl))
  f318 := Tryz.func219.trans (congrArg some (by kernel_rfl))
  f319 := Tryz.func220.trans (congrArg some (by kernel_rfl))
  f320 := Tryz.func221.trans (congrArg some (by kernel_rfl))
  f337 := Tryz.func229.trans (congrArg some (by kernel_rfl))
  f338 := Tryz.func72.trans (congrArg some (by kernel_rfl))
  t0 := Tryz.underlying0
  a0 := Tryz.isAgg0
  z0 := Tryz.sizeOf0
  v0 := Tryz.zeroValue0
  t2 := Tryz.underlying2
  a2 := Tryz.isAgg2
  z2 := Tryz.sizeOf2
  v2 := Tryz.zeroValue2
  t3 := Tryz.underlying3
  a3 := Tryz.isAgg3
  z3 := Tryz.sizeOf3
  v3 := Tryz.zeroValue3
  t4 := Tryz.underlying4
  a4 := Tryz.isAgg4
  z4 := Tryz.sizeOf4
  v4 := Tryz.zeroValue4
  t5 := Tryz.underlying5
  a5 := Tryz.isAgg5
  z5 := Tryz.sizeOf5
  v5 := Tryz.zeroValue5
  t9 := Tryz.underlying9
  a9 := Tryz.isAgg9
  z9 := Tryz.sizeOf9
  v9 := Tryz.zeroValue9
  t20 := Tryz.underlying20
  a20 := Tryz.isAgg20
  z20 := Tryz.sizeOf20
  v20 := Tryz.zeroValue20
  t37 := Tryz.underlying47
  a37 := Tryz.isAgg47
  z37 := Tryz.sizeOf47
  v37 := Tryz.zeroValue47
  t46 := Tryz.underlying120
  a46 := Tryz.isAgg120
  z46 := Tryz.sizeOf120
  v46 := Tryz.zeroValue120
  t51 := Tryz.underlying148
  a51 := Tryz.isAgg148
  z51 := Tryz.sizeOf148
  v51 := Tryz.zeroValue148
  t53 := Tryz.underlying26
  a53 := Tryz.isAgg26
  z53 := Tryz.sizeOf26
  v53 := Tryz.zeroValue26
  t171 := Tryz.underlying220
  a171 := Tryz.isAgg220
  z171 := Tryz.sizeOf220
  v171 := Tryz.zeroValue220
  t173 := Tryz.underlying222
  a173 := Tryz.isAgg222
  z173 := Tryz.sizeOf222
  v173 := Tryz.zeroValue222
  t212 := Tryz.underlying235
  a212 := Tryz.isAgg235
  z212 := Tryz.sizeOf235
  v212 := Tryz.zeroValue235
  t213 := Tryz.underlying236
  a213 := Tryz.isAgg236
  z213 := Tryz.sizeOf236
  t232 := Tryz.underlying244
  a232 := Tryz.isAgg244
  z232 := Tryz.sizeOf244
  v232 := Tryz.zeroValue244
  t233 := Tryz.underlying139
  a233 := Tryz.isAgg139
  z233 := Tryz.sizeOf139
  v233 := Tryz.zeroValue139
  g17 := by kernel_rfl
  g18 := by kernel_rfl
  g19 := by kernel_rfl
  i0 := by kernel_rfl
  i2 := by kernel_rfl
  i3 := by kernel_rfl
  i4 := by kernel_rfl
  i5 := by kernel_rfl
  i9 := by kernel_rfl
  i20 := by kernel_rfl
  i37 := by kernel_rfl
  i46 := by kernel_rfl
  i51 := by kernel_rfl
  i53 := by kernel_rfl
  i171 := by kernel_rfl
  i173 := by kernel_rfl
  i212 := by kernel_rfl
  i232 := by kernel_rfl
  i233 := by kernel_rfl
  m17 := by kernel_rfl
  m18 := by kernel_rfl
  m19 := by kernel_rfl }

/-- The table of powers of ten lies as the text lays it. -/
def Tab10 (w : World) : Prop := Lib.TabIs Tryz.prog w "internal/strconv.uint64pow10" .u64 Lib.pow10Tab

def itl (n : Int) : List Int := (Lib.itoa n).map fun b => (b.toNat : Int)
theorem itl_str (n : Int) : Str ⟨(Lib.itoa n).toArray⟩ (itl n) := rfl

theorem below_grown {w : World} (k : Nat) (os : Array Obj) : Below w.heap.size w (Go.Sort.grow (w.drewN k) os) := by
  refine ⟨rfl, rfl, rfl, ?_, fun j hj => ?_⟩
  · show w.heap.size ≤ (w.heap ++ os).size
    simp
  · show (w.heap ++ os)[j]? = w.heap[j]?
    rw [Array.getElem?_append_left hj]

theorem itoa_any (n : Int) (w : World) (h0 : -9223372036854775808 ≤ n) (h1 : n ≤ 9223372036854775807) (ht : Tab10 w) :
    Calls Tryz.prog 120 #[.int .i64 n] w fun e w' => e = .returned (.string ⟨(Lib.itoa n).toArray⟩) ∧ Below w.heap.size w w' := by
  refine (Any.strconv_Itoa itoaLays n h0 h1 w ht).mono ?_
  rintro e w' ⟨rfl, k, os, rfl⟩
  exact ⟨rfl, below_grown k os⟩
end Go.Proofs.YtaoaniigbooihaaGreatDoor

namespace Go.Proofs.YtaoaniigbooihaaGreatDoor
open Go Go.RowKit Go.Deep Go.Shelf

namespace Po
theorem dl_tx {v : Nat} (h : v ≤ 400) : (if v < 10 then 48 :: Sc.dl v else Sc.dl v) = Fx.tx (if (v : Int) < 100 then 2 else 3) (v : Int) := by
  have key : ∀ t : Fin 401, Fx.tx (if (t.val : Int) < 100 then 2 else 3) (t.val : Int) = if t.val < 100 then [48 + ((t.val / 10 : Nat) : Int), 48 + ((t.val % 10 : Nat) : Int)] else [48 + ((t.val / 10 / 10 : Nat) : Int), 48 + ((t.val / 10 % 10 : Nat) : Int), 48 + ((t.val % 10 : Nat) : Int)] := by decide +kernel
  have k := key ⟨v, by omega⟩
  simp only at k
  rw [k]
  by_cases c : v < 10
  · rw [if_pos c, if_pos (by omega), Sc.dl_small c, show v / 10 = 0 by omega, show v % 10 = v by omega]
    rfl
  · rw [if_neg c]
    by_cases e : v < 100
    · rw [if_pos e, Sc.dl_big c, Sc.dl_small (by omega)]
      rfl
    · rw [if_neg e, Sc.dl_big c, Sc.dl_big (by omega), Sc.dl_small (by omega)]
      rfl
theorem itoa_dl {n : Int} (h : 0 ≤ n) : (⟨(Lib.itoa n).toArray⟩ : ByteArray) = strOfNums (Sc.dl n.toNat) := by
  apply str_is
  have : Lib.itoa n = Lib.decDigits n.toNat := by rw [Lib.itoa, if_neg (by omega)]
  rw [this]
  rfl
theorem dl_len {v : Nat} (h : v ≤ 400) : (Sc.dl v).length = if v < 10 then 1 else if v < 100 then 2 else 3 := by
  by_cases c : v < 10
  · rw [if_pos c, Sc.dl_small c]; rfl
  · rw [if_neg c]
    by_cases e : v < 100
    · rw [if_pos e, Sc.dl_big c, Sc.dl_small (by omega)]; rfl
    · rw [if_neg e, Sc.dl_big c, Sc.dl_big (by omega), Sc.dl_small (by omega)]; rfl
theorem dl_by {v : Nat} (h : v ≤ 400) : Wh.By (Sc.dl v) := by
  by_cases c : v < 10
  · rw [Sc.dl_small c]; exact Wh.By.cons (by omega) Wh.By.nil
  · by_cases e : v < 100
    · rw [Sc.dl_big c, Sc.dl_small (by omega)]
      exact (Wh.By.cons (by omega) Wh.By.nil).app (Wh.By.cons (by omega) Wh.By.nil)
    · rw [Sc.dl_big c, Sc.dl_big (by omega), Sc.dl_small (by omega)]
      exact ((Wh.By.cons (by omega) Wh.By.nil).app (Wh.By.cons (by omega) Wh.By.nil)).app (Wh.By.cons (by omega) Wh.By.nil)
end Po

set_option maxRecDepth 100000 in
set_option maxHeartbeats 4000000 in
theorem xexp_any (L k : Int) (w : World) (ht : Tab10 w) (l0 : 0 ≤ L) (l1 : L < 256) (k0 : -400 ≤ k) (k1 : k ≤ 400) :
    Calls Tryz.prog 89 #[.string (strOfNums [L]), .int .i64 k] w fun e w' => e = .returned (.string (strOfNums (L :: Po.xd k))) ∧ Below w.heap.size w w' := by
  obtain ⟨v, hv, hv2⟩ : ∃ v : Nat, (v : Int) = max k (-k) ∧ v ≤ 400 := ⟨(max k (-k)).toNat, by omega, by omega⟩
  have IT := hid (itoa_any (v : Int) w (by omega) (by omega) ht)
  rw [Po.itoa_dl (by omega), Int.toNat_natCast] at IT
  have yL : Wh.By [L] := Wh.By.cons ⟨l0, l1⟩ Wh.By.nil
  have zL : (strOfNums [L]).size = 1 := by rw [strOfNums_size]; rfl
  have zD : (strOfNums (Sc.dl v)).size = if v < 10 then 1 else if v < 100 then 2 else 3 := by rw [strOfNums_size, Po.dl_len hv2]
  have xd := Po.xd_is k0 k1
  rw [← hv, ← Po.dl_tx hv2] at xd
  have yd := Po.dl_by hv2
  have R1 : Hid (k < 0 → v < 10 → strOfNums [L] ++ ⟨#[45]⟩ ++ (⟨#[48]⟩ ++ strOfNums (Sc.dl v)) = strOfNums (L :: Po.xd k)) := fun a b => by
    rw [xd, if_pos a, if_pos b]
    exact str_is (((Str.of_nums yL).app (show Str ⟨#[45]⟩ [45] from rfl)).app ((show Str ⟨#[48]⟩ [48] from rfl).app (Str.of_nums yd)))
  have R2 : Hid (k < 0 → ¬ v < 10 → strOfNums [L] ++ ⟨#[45]⟩ ++ strOfNums (Sc.dl v) = strOfNums (L :: Po.xd k)) := fun a b => by
    rw [xd, if_pos a, if_neg b]
    exact str_is (((Str.of_nums yL).app (show Str ⟨#[45]⟩ [45] from rfl)).app (Str.of_nums yd))
  have R3 : Hid (¬ k < 0 → v < 10 → strOfNums [L] ++ ⟨#[43]⟩ ++ (⟨#[48]⟩ ++ strOfNums (Sc.dl v)) = strOfNums (L :: Po.xd k)) := fun a b => by
    rw [xd, if_neg a, if_pos b]
    exact str_is (((Str.of_nums yL).app (show Str ⟨#[43]⟩ [43] from rfl)).app ((show Str ⟨#[48]⟩ [48] from rfl).app (Str.of_nums yd)))
  have R4 : Hid (¬ k < 0 → ¬ v < 10 → strOfNums [L] ++ ⟨#[43]⟩ ++ strOfNums (Sc.dl v) = strOfNums (L :: Po.xd k)) := fun a b => by
    rw [xd, if_neg a, if_neg b]
    exact str_is (((Str.of_nums yL).app (show Str ⟨#[43]⟩ [43] from rfl)).app (Str.of_nums yd))
  clear xd yL yd ht l0 l1 hv2
  generalize strOfNums (L :: Po.xd k) = RR at *
  generalize strOfNums [L] = sl at *
  generalize strOfNums (Sc.dl v) = sd at *
  by_cases hk : k < 0
  · have ev : -k = (v : Int) := by omega
    by_cases hv' : v < 10
    · have R := hid (R1.out hk hv')
      rw [if_pos hv'] at zD
      clear R1 R2 R3 R4 hv hv'
      go_enter Tryz.func89, Tryz.ntmps89
      go_wp2_with fail
      with_reducible refine IT.out.mono ?_
      rintro e w1 ⟨rfl, b1⟩
      have B1 := hid b1
      clear b1 IT
      go_wp2_with fail
      go_ret
      exact ⟨ret_str R.out, B1.out⟩
    · have R := hid (R2.out hk hv')
      have zD2 : (2 : Int) ≤ (sd.size : Int) := by rw [zD, if_neg hv']; split <;> omega
      have zD3 : (sd.size : Int) ≤ 3 := by rw [zD, if_neg hv']; split <;> omega
      clear R1 R2 R3 R4 hv hv' zD
      go_enter Tryz.func89, Tryz.ntmps89
      go_wp2_with fail
      with_reducible refine IT.out.mono ?_
      rintro e w1 ⟨rfl, b1⟩
      have B1 := hid b1
      clear b1 IT
      go_wp2_with fail
      go_ret
      exact ⟨ret_str R.out, B1.out⟩
  · have ev : k = (v : Int) := by omega
    subst ev
    by_cases hv' : v < 10
    · have R := hid (R3.out hk hv')
      rw [if_pos hv'] at zD
      clear R1 R2 R3 R4 hv hv'
      go_enter Tryz.func89, Tryz.ntmps89
      go_wp2_with fail
      with_reducible refine IT.out.mono ?_
      rintro e w1 ⟨rfl, b1⟩
      have B1 := hid b1
      clear b1 IT
      go_wp2_with fail
      go_ret
      exact ⟨ret_str R.out, B1.out⟩
    · have R := hid (R4.out hk hv')
      have zD2 : (2 : Int) ≤ (sd.size : Int) := by rw [zD, if_neg hv']; split <;> omega
      have zD3 : (sd.size : Int) ≤ 3 := by rw [zD, if_neg hv']; split <;> omega
      clear R1 R2 R3 R4 hv hv' zD
      go_enter Tryz.func89, Tryz.ntmps89
      go_wp2_with fail
      with_reducible refine IT.out.mono ?_
      rintro e w1 ⟨rfl, b1⟩
      have B1 := hid b1
      clear b1 IT
      go_wp2_with fail
      go_ret
      exact ⟨ret_str R.out, B1.out⟩
end Go.Proofs.YtaoaniigbooihaaGreatDoor

namespace Go.Proofs.YtaoaniigbooihaaGreatDoor
open Go Go.RowKit Go.Deep Go.Shelf

theorem xtab10_below {w w' : World} (h : Tab10 w) (k : Below w.heap.size w w') : Tab10 w' := by
  unfold Tab10 Lib.TabIs World.var? at *
  cases hg : Tryz.prog.globalNamed "internal/strconv.uint64pow10" with
  | none => rw [hg] at h; simp at h
  | some g =>
    rw [hg] at h
    simp only [Option.bind_some] at h ⊢
    have hl : g < w.heap.size := by
      rcases Nat.lt_or_ge g w.heap.size with c | c
      · exact c
      · rw [Array.getElem?_eq_none c] at h; simp at h
    rw [k.block g hl]; exact h
theorem Tab10.bel {w w' : World} (h : Tab10 w) (k : Below w.heap.size w w') : Tab10 w' := xtab10_below h k
theorem Po.hd_by {a b : List Int} {h : Bool} (ha : Wh.By a) (hb : Wh.By b) : Wh.By (Po.hd a b h) := by
  unfold Po.hd
  split
  · exact ha
  · exact ha.app (Wh.By.cons (by omega) hb)
theorem Po.hd_len (a b : List Int) (h : Bool) : (Po.hd a b h).length ≤ a.length + b.length + 1 := by
  unfold Po.hd
  split
  · omega
  · rw [List.length_append, List.length_cons]; omega

set_option maxRecDepth 100000 in
set_option maxHeartbeats 8000000 in
theorem xbody_f (V F W P d : Int) (w : World) (hT : Tab10 w) (hV : V = 102 ∨ V = 70) (f0 : 0 ≤ F) (f1 : F ≤ 31) (p0 : -1 ≤ P) (p1 : P ≤ 4096) (h0 : 0 ≤ d) (h1 : d < 18446744073709551616) (hf : Ie.fnt d = true) :
    Calls Tryz.prog 49 #[.agg #[.int .u8 V, .int .i64 F, .int .i64 W, .int .i64 P], .int .u64 d] w fun e w' => e = .returned (.string (strOfNums (Po.bd V (Wh.bit F 8) P d))) ∧ Below w.heap.size w w' := by
  have B0 := hid (SB.new w V F W P)
  have TB : Hid (∀ wk, Below w.heap.size w wk → Tab10 wk) := fun wk k => hT.bel k
  have H8 := hid (fun W' => xhas_any F 8 W' f0 f1 (by omega))
  obtain ⟨q0, q1⟩ := Po.pr_bd p0 p1
  have PC : Hid ((P = -1 ∧ Po.pr P = 6) ∨ (P ≠ -1 ∧ Po.pr P = P)) := by
    unfold Po.pr
    by_cases c : P = -1
    · exact .inl ⟨c, if_pos c⟩
    · exact .inr ⟨c, if_neg c⟩
  have bdE : Po.bd V (Wh.bit F 8) P d = Po.hd (Fx.pA d (Po.pr P)) (Fx.pB d (Po.pr P)) (Wh.bit F 8) := by rw [Po.bd, if_pos hV, Po.bdF, Po.wrt_hd, List.append_nil]
  obtain ⟨n, hn⟩ : ∃ n : Nat, Po.pr P = (n : Int) := ⟨(Po.pr P).toNat, by omega⟩
  have FX := hid (fun W' => xfixed_any d n W' h0 h1 hf (by omega))
  have K := Po.plF hf (n := Po.pr P) q0 (by omega)
  have PT := hid (fun W' => xpointed_any (Fx.pA d (Po.pr P)) (Fx.pB d (Po.pr P)) (Wh.bit F 8) W' (Po.digs_by K.a) (Po.digs_by K.b) (by have := K.la; omega) (by have := K.lb; omega))
  rw [← hn] at FX
  rw [bdE]
  clear bdE K hn q0 q1 f0 f1 h0 h1 hf hT p0 p1
  generalize strOfNums (Po.hd (Fx.pA d (Po.pr P)) (Fx.pB d (Po.pr P)) (Wh.bit F 8)) = R at *
  generalize strOfNums (Fx.pA d (Po.pr P)) = sa at *
  generalize strOfNums (Fx.pB d (Po.pr P)) = sb at *
  generalize Wh.bit F 8 = hh at *
  generalize Po.pr P = pp at *
  rcases hV with rfl | rfl
  · obtain ⟨c0, c1, c2, c3⟩ := B0.out.flat
    go_enter Tryz.func49, Tryz.ntmps49
    go_upto_if 20 with fail
    go_cut [5] (fun v wx => v = .int .i64 pp ∧ Hid (SB w w.heap.size 102 F W P wx))
    case first =>
      rcases PC.out with ⟨hp, e6⟩ | ⟨hp, e6⟩
      · have hp1 : (P == -1) = true := by simpa using hp
        clear hp
        go_wp2_with fail
        go_meet
        exact ⟨by rw [e6], B0⟩
      · have hp1 : (P == -1) = false := by simpa using hp
        clear hp
        go_wp2_with fail
        go_meet
        exact ⟨by rw [e6], B0⟩
    case rest =>
    obtain ⟨h5, B1⟩ := hcut
    subst h5
    clear B0 c0 c1 c2 c3 PC
    obtain ⟨c0, c1, c2, c3⟩ := B1.out.flat
    go_wp2_with fail
    with_reducible refine (H8.out _).mono ?_
    rintro e w2 ⟨rfl, e2⟩
    rw [e2]
    clear e2 w2 H8
    go_wp2_with fail
    with_reducible refine (FX.out _).mono ?_
    rintro e w3 ⟨rfl, b3⟩
    have B3 := hid (B1.out.on b3)
    clear b3 B1 FX c0 c1 c2 c3
    go_wp2_with fail
    with_reducible refine (PT.out _).mono ?_
    rintro e w4 ⟨rfl, e4⟩
    rw [e4]
    clear e4 w4 PT
    go_wp2_with fail
    go_ret
    exact ⟨rfl, B3.out.bel⟩
  · obtain ⟨c0, c1, c2, c3⟩ := B0.out.flat
    go_enter Tryz.func49, Tryz.ntmps49
    go_upto_if 20 with fail
    go_cut [5] (fun v wx => v = .int .i64 pp ∧ Hid (SB w w.heap.size 70 F W P wx))
    case first =>
      rcases PC.out with ⟨hp, e6⟩ | ⟨hp, e6⟩
      · have hp1 : (P == -1) = true := by simpa using hp
        clear hp
        go_wp2_with fail
        go_meet
        exact ⟨by rw [e6], B0⟩
      · have hp1 : (P == -1) = false := by simpa using hp
        clear hp
        go_wp2_with fail
        go_meet
        exact ⟨by rw [e6], B0⟩
    case rest =>
    obtain ⟨h5, B1⟩ := hcut
    subst h5
    clear B0 c0 c1 c2 c3 PC
    obtain ⟨c0, c1, c2, c3⟩ := B1.out.flat
    go_wp2_with fail
    with_reducible refine (H8.out _).mono ?_
    rintro e w2 ⟨rfl, e2⟩
    rw [e2]
    clear e2 w2 H8
    go_wp2_with fail
    with_reducible refine (FX.out _).mono ?_
    rintro e w3 ⟨rfl, b3⟩
    have B3 := hid (B1.out.on b3)
    clear b3 B1 FX c0 c1 c2 c3
    go_wp2_with fail
    with_reducible refine (PT.out _).mono ?_
    rintro e w4 ⟨rfl, e4⟩
    rw [e4]
    clear e4 w4 PT
    go_wp2_with fail
    go_ret
    exact ⟨rfl, B3.out.bel⟩

set_option maxRecDepth 100000 in
set_option maxHeartbeats 8000000 in
theorem xbody_e (V F W P d : Int) (w : World) (hT : Tab10 w) (hV : V = 101 ∨ V = 69) (f0 : 0 ≤ F) (f1 : F ≤ 31) (p0 : -1 ≤ P) (p1 : P ≤ 4096) (h0 : 0 ≤ d) (h1 : d < 18446744073709551616) (hf : Ie.fnt d = true) :
    Calls Tryz.prog 49 #[.agg #[.int .u8 V, .int .i64 F, .int .i64 W, .int .i64 P], .int .u64 d] w fun e w' => e = .returned (.string (strOfNums (Po.bd V (Wh.bit F 8) P d))) ∧ Below w.heap.size w w' := by
  have B0 := hid (SB.new w V F W P)
  have TB : Hid (∀ wk, Below w.heap.size w wk → Tab10 wk) := fun wk k => hT.bel k
  have H8 := hid (fun W' => xhas_any F 8 W' f0 f1 (by omega))
  obtain ⟨q0, q1⟩ := Po.pr_bd p0 p1
  have PC : Hid ((P = -1 ∧ Po.pr P = 6) ∨ (P ≠ -1 ∧ Po.pr P = P)) := by
    unfold Po.pr
    by_cases c : P = -1
    · exact .inl ⟨c, if_pos c⟩
    · exact .inr ⟨c, if_neg c⟩
  have hVn : ¬ (V = 102 ∨ V = 70) := by omega
  have lV : (if Po.cap V = true then (69 : Int) else 101) = V := by rcases hV with rfl | rfl <;> decide
  have bdE : Po.bd V (Wh.bit F 8) P d = Po.hd ((Fx.gS d (Po.pr P + 1)).take 1) ((Fx.gS d (Po.pr P + 1)).drop 1) (Wh.bit F 8) ++ (V :: Po.xd (Fx.gK d (Po.pr P + 1))) := by rw [Po.bd, if_neg hVn, if_pos hV, Po.bdE, Po.wrt_hd, Po.ex, lV]
  obtain ⟨n, hn⟩ : ∃ n : Nat, Po.pr P = (n : Int) := ⟨(Po.pr P).toNat, by omega⟩
  have FG := hid (fun W' => xfigures_any d n W' h0 h1 hf (by omega))
  rw [← hn] at FG
  have K := Po.fgF hf (n := Po.pr P + 1) (by omega) (by omega)
  have ln := K.len
  have k0 := K.lo
  have k1 := K.hi
  have ya := Po.digs_by (Po.digs_take K.s 1)
  have yb := Po.digs_by (Po.digs_drop K.s 1)
  have la : ((Fx.gS d (Po.pr P + 1)).take 1).length ≤ 10000 := by rw [List.length_take]; omega
  have lb : ((Fx.gS d (Po.pr P + 1)).drop 1).length ≤ 10000 := by rw [List.length_drop]; omega
  have PT := hid (fun W' => xpointed_any ((Fx.gS d (Po.pr P + 1)).take 1) ((Fx.gS d (Po.pr P + 1)).drop 1) (Wh.bit F 8) W' ya yb la lb)
  have EX := hid (fun W' (ht : Tab10 W') => xexp_any V (Fx.gK d (Po.pr P + 1)) W' ht (by omega) (by omega) (by omega) (by omega))
  have R : Hid (strOfNums (Po.hd ((Fx.gS d (Po.pr P + 1)).take 1) ((Fx.gS d (Po.pr P + 1)).drop 1) (Wh.bit F 8)) ++ strOfNums (V :: Po.xd (Fx.gK d (Po.pr P + 1))) = strOfNums (Po.bd V (Wh.bit F 8) P d)) := by
    rw [bdE]
    exact xapp (Po.hd_by ya yb) (Wh.By.cons (by omega) (Po.xd_by _))
  have X1 := ext_head (Po.digs_by K.s) 1
  have X2 := ext_tail (Po.digs_by K.s) 1
  have sz : (strOfNums (Fx.gS d (Po.pr P + 1))).size = (Fx.gS d (Po.pr P + 1)).length := strOfNums_size _
  have s1 : ((strOfNums (Po.hd ((Fx.gS d (Po.pr P + 1)).take 1) ((Fx.gS d (Po.pr P + 1)).drop 1) (Wh.bit F 8))).size : Int) ≤ 20001 := by rw [strOfNums_size]; have := Po.hd_len ((Fx.gS d (Po.pr P + 1)).take 1) ((Fx.gS d (Po.pr P + 1)).drop 1) (Wh.bit F 8); omega
  have s2 : ((strOfNums (V :: Po.xd (Fx.gK d (Po.pr P + 1)))).size : Int) ≤ 10 := by rw [strOfNums_size, List.length_cons]; have := Po.xd_len (k := Fx.gK d (Po.pr P + 1)) (by omega) (by omega); omega
  have T1 : (1 : Int) ≤ ((Fx.gS d (Po.pr P + 1)).length : Int) := by omega
  have T2 : ((Fx.gS d (Po.pr P + 1)).length : Int) ≤ 5000 := by omega
  clear bdE K hn q0 q1 f0 f1 h0 h1 hf hT p0 p1 la lb ya yb ln k0 k1 hVn lV
  generalize strOfNums (Po.bd V (Wh.bit F 8) P d) = RR at *
  generalize strOfNums (Po.hd ((Fx.gS d (Po.pr P + 1)).take 1) ((Fx.gS d (Po.pr P + 1)).drop 1) (Wh.bit F 8)) = sh at *
  generalize strOfNums (V :: Po.xd (Fx.gK d (Po.pr P + 1))) = sx at *
  generalize strOfNums ((Fx.gS d (Po.pr P + 1)).take 1) = sa at *
  generalize strOfNums ((Fx.gS d (Po.pr P + 1)).drop 1) = sb at *
  generalize strOfNums (Fx.gS d (Po.pr P + 1)) = sg at *
  generalize (Fx.gS d (Po.pr P + 1)).length = T at *
  generalize Fx.gK d (Po.pr P + 1) = x at *
  generalize Wh.bit F 8 = hh at *
  generalize Po.pr P = pp at *
  rcases hV with rfl | rfl
  · have lit : strOfNums [101] = ⟨#[101]⟩ := rfl
    rw [lit] at EX
    obtain ⟨c0, c1, c2, c3⟩ := B0.out.flat
    go_enter Tryz.func49, Tryz.ntmps49
    go_upto_if 20 with fail
    go_cut [5] (fun v wx => v = .int .i64 pp ∧ Hid (SB w w.heap.size 101 F W P wx))
    case first =>
      rcases PC.out with ⟨hp, e6⟩ | ⟨hp, e6⟩
      · have hp1 : (P == -1) = true := by simpa using hp
        clear hp
        go_wp2_with fail
        go_meet
        exact ⟨by rw [e6], B0⟩
      · have hp1 : (P == -1) = false := by simpa using hp
        clear hp
        go_wp2_with fail
        go_meet
        exact ⟨by rw [e6], B0⟩
    case rest =>
    obtain ⟨h5, B1⟩ := hcut
    subst h5
    clear B0 c0 c1 c2 c3 PC
    obtain ⟨c0, c1, c2, c3⟩ := B1.out.flat
    go_wp2_with fail
    with_reducible refine (H8.out _).mono ?_
    rintro e w2 ⟨rfl, e2⟩
    rw [e2]
    clear e2 w2 H8
    go_wp2_with fail
    with_reducible refine (FG.out _).mono ?_
    rintro e w3 ⟨rfl, b3⟩
    have B3 := hid (B1.out.on b3)
    clear b3 B1 FG c0 c1 c2 c3
    go_upto_region 16 with fail
    have T3 := hid B3.out.drew
    go_region_with (first | (go_at_call 87; with_reducible refine (PT.out _).mono ?_; rintro e wj ⟨rfl, hw⟩; rw [hw]; clear hw wj) | (go_at_call 89; with_reducible refine (EX.out _ (TB.out _ (by first | exact T3.out.bel | exact B3.out.bel))).mono ?_; rintro e wx ⟨rfl, bx⟩; have TX := hid (below_on (by first | exact T3.out.bel | exact B3.out.bel) bx); clear bx))
    all_goals (go_wp2_with fail)
    all_goals go_ret
    all_goals first | exact ⟨ret_str R.out, TX.out⟩ | exact ⟨ret_str R.out, TX.out.drew⟩
  · have lit : strOfNums [69] = ⟨#[69]⟩ := rfl
    rw [lit] at EX
    obtain ⟨c0, c1, c2, c3⟩ := B0.out.flat
    go_enter Tryz.func49, Tryz.ntmps49
    go_upto_if 20 with fail
    go_cut [5] (fun v wx => v = .int .i64 pp ∧ Hid (SB w w.heap.size 69 F W P wx))
    case first =>
      rcases PC.out with ⟨hp, e6⟩ | ⟨hp, e6⟩
      · have hp1 : (P == -1) = true := by simpa using hp
        clear hp
        go_wp2_with fail
        go_meet
        exact ⟨by rw [e6], B0⟩
      · have hp1 : (P == -1) = false := by simpa using hp
        clear hp
        go_wp2_with fail
        go_meet
        exact ⟨by rw [e6], B0⟩
    case rest =>
    obtain ⟨h5, B1⟩ := hcut
    subst h5
    clear B0 c0 c1 c2 c3 PC
    obtain ⟨c0, c1, c2, c3⟩ := B1.out.flat
    go_wp2_with fail
    with_reducible refine (H8.out _).mono ?_
    rintro e w2 ⟨rfl, e2⟩
    rw [e2]
    clear e2 w2 H8
    go_wp2_with fail
    with_reducible refine (FG.out _).mono ?_
    rintro e w3 ⟨rfl, b3⟩
    have B3 := hid (B1.out.on b3)
    clear b3 B1 FG c0 c1 c2 c3
    go_upto_region 16 with fail
    have T3 := hid B3.out.drew
    go_region_with (first | (go_at_call 87; with_reducible refine (PT.out _).mono ?_; rintro e wj ⟨rfl, hw⟩; rw [hw]; clear hw wj) | (go_at_call 89; with_reducible refine (EX.out _ (TB.out _ (by first | exact T3.out.bel | exact B3.out.bel))).mono ?_; rintro e wx ⟨rfl, bx⟩; have TX := hid (below_on (by first | exact T3.out.bel | exact B3.out.bel) bx); clear bx))
    all_goals (go_wp2_with fail)
    all_goals go_ret
    all_goals first | exact ⟨ret_str R.out, TX.out⟩ | exact ⟨ret_str R.out, TX.out.drew⟩

set_option maxRecDepth 100000 in
set_option maxHeartbeats 8000000 in
theorem xbody_g (V F W P d : Int) (w : World) (hT : Tab10 w) (hV : V = 103 ∨ V = 71) (f0 : 0 ≤ F) (f1 : F ≤ 31) (p0 : -1 ≤ P) (p1 : P ≤ 4096) (h0 : 0 ≤ d) (h1 : d < 18446744073709551616) (hf : Ie.fnt d = true) :
    Calls Tryz.prog 49 #[.agg #[.int .u8 V, .int .i64 F, .int .i64 W, .int .i64 P], .int .u64 d] w fun e w' => e = .returned (.string (strOfNums (Po.bd V (Wh.bit F 8) P d))) ∧ Below w.heap.size w w' := by
  have B0 := hid (SB.new w V F W P)
  have TB : Hid (∀ wk, Below w.heap.size w wk → Tab10 wk) := fun wk k => hT.bel k
  have H8 := hid (fun W' => xhas_any F 8 W' f0 f1 (by omega))
  obtain ⟨q0, q1⟩ := Po.pr_bd p0 p1
  have PC : Hid ((P = -1 ∧ Po.pr P = 6) ∨ (P ≠ -1 ∧ Po.pr P = P)) := by
    unfold Po.pr
    by_cases c : P = -1
    · exact .inl ⟨c, if_pos c⟩
    · exact .inr ⟨c, if_neg c⟩
  have hVn : ¬ (V = 102 ∨ V = 70) := by omega
  have hVm : ¬ (V = 101 ∨ V = 69) := by omega
  have bdE : Po.bd V (Wh.bit F 8) P d = Po.bdG V (Wh.bit F 8) d (max (Po.pr P) 1) := by rw [Po.bd, if_neg hVn, if_neg hVm]
  obtain ⟨q, hq⟩ : ∃ q, max (Po.pr P) 1 = q := ⟨_, rfl⟩
  rw [hq] at bdE
  have PD : Hid ((Po.pr P = 0 ∧ q = 1) ∨ (Po.pr P ≠ 0 ∧ q = Po.pr P)) := by show (Po.pr P = 0 ∧ q = 1) ∨ (Po.pr P ≠ 0 ∧ q = Po.pr P); omega
  have r0 : 1 ≤ q := by omega
  have r1 : q ≤ 4096 := by omega
  obtain ⟨n, hn⟩ : ∃ n : Nat, q - 1 = (n : Int) := ⟨(q - 1).toNat, by omega⟩
  have FG := hid (fun W' => xfigures_any d n W' h0 h1 hf (by omega))
  rw [← hn, show q - 1 + 1 = q by omega] at FG
  have K := Po.fgF hf (n := q) r0 (by omega)
  have ln := K.len
  have k0 := K.lo
  have k1 := K.hi
  have ya := Po.digs_by (Po.digs_take K.s 1)
  have la : ((Fx.gS d q).take 1).length ≤ 10000 := by rw [List.length_take]; omega
  have ld : ((Fx.gS d q).drop 1).length ≤ 5000 := by rw [List.length_drop]; omega
  have L : ∃ l : Int, (if Po.cap V = true then (69 : Int) else 101) = l ∧ (V = 103 → l = 101) ∧ (V = 71 → l = 69) ∧ 0 ≤ l ∧ l < 256 := by rcases hV with rfl | rfl; exact ⟨101, by decide, fun _ => rfl, fun c => by omega, by omega, by omega⟩; exact ⟨69, by decide, fun c => by omega, fun _ => rfl, by omega, by omega⟩
  obtain ⟨l, hl, hl1, hl2, l0, l1⟩ := L
  have ST := hid (fun W' => xstripped_any ((Fx.gS d q).drop 1) W' (Po.digs_by (Po.digs_drop K.s 1)) (by omega))
  have EX := hid (fun W' (ht : Tab10 W') => xexp_any l (Fx.gK d q) W' ht l0 l1 (by omega) (by omega))
  have X1 := ext_head (Po.digs_by K.s) 1
  have X2 := ext_tail (Po.digs_by K.s) 1
  have sz : (strOfNums (Fx.gS d q)).size = (Fx.gS d q).length := strOfNums_size _
  have s2 : ((strOfNums (l :: Po.xd (Fx.gK d q))).size : Int) ≤ 10 := by rw [strOfNums_size, List.length_cons]; have := Po.xd_len (k := Fx.gK d q) (by omega) (by omega); omega
  have T1 : (1 : Int) ≤ ((Fx.gS d q).length : Int) := by omega
  have T2 : ((Fx.gS d q).length : Int) ≤ 5000 := by omega
  by_cases hx : -4 ≤ Fx.gK d q ∧ Fx.gK d q < q
  · obtain ⟨n2, hn2⟩ : ∃ n2 : Nat, q - 1 - Fx.gK d q = (n2 : Int) := ⟨(q - 1 - Fx.gK d q).toNat, by omega⟩
    have J := Po.plF hf (n := q - 1 - Fx.gK d q) (by omega) (by omega)
    have ja := J.la
    have jb := J.lb
    have FX := hid (fun W' => xfixed_any d n2 W' h0 h1 hf (by omega))
    rw [← hn2] at FX
    have SB2 := hid (fun W' => xstripped_any (Fx.pB d (q - 1 - Fx.gK d q)) W' (Po.digs_by J.b) (by omega))
    have PT := hid (fun W' => xpointed_any (Fx.pA d (q - 1 - Fx.gK d q)) (Po.st (Wh.bit F 8) (Fx.pB d (q - 1 - Fx.gK d q))) (Wh.bit F 8) W' (Po.digs_by J.a) (Po.digs_by (Po.digs_st _ J.b)) (by omega) (by have := Po.st_len (Wh.bit F 8) (Fx.pB d (q - 1 - Fx.gK d q)); omega))
    have R : Hid (Po.hd (Fx.pA d (q - 1 - Fx.gK d q)) (Po.st (Wh.bit F 8) (Fx.pB d (q - 1 - Fx.gK d q))) (Wh.bit F 8) = Po.bd V (Wh.bit F 8) P d) := by
      show _ = _
      rw [bdE, Po.bdG, if_pos hx, Po.wrt_hd, List.append_nil]
    rw [R.out] at PT
    obtain ⟨hx1, hx2⟩ := hx
    clear bdE K J hq hn hn2 q0 q1 f0 f1 h0 h1 hf hT p0 p1 la ya hVn hVm hl hl1 hl2 l0 l1 ST EX R ja jb ld s2 X1 X2 sz T1 T2
    generalize strOfNums (Po.bd V (Wh.bit F 8) P d) = RR at *
    generalize strOfNums (Fx.gS d q) = sg at *
    generalize Fx.gK d q = x at *
    generalize Fx.pA d (q - 1 - x) = a at *
    generalize Fx.pB d (q - 1 - x) = b at *
    generalize Wh.bit F 8 = hh at *
    generalize Po.pr P = pp at *
    cases hh with
    | true =>
      rw [show Po.st true b = b from rfl] at PT
      clear SB2
      generalize strOfNums a = sa at *
      generalize strOfNums b = sb at *
      rcases hV with rfl | rfl
      · obtain ⟨c0, c1, c2, c3⟩ := B0.out.flat
        go_enter Tryz.func49, Tryz.ntmps49
        go_upto_if 20 with fail
        go_cut [5] (fun v wx => v = .int .i64 pp ∧ Hid (SB w w.heap.size 103 F W P wx))
        case first =>
          rcases PC.out with ⟨hp, e6⟩ | ⟨hp, e6⟩
          · have hp1 : (P == -1) = true := by simpa using hp
            clear hp
            go_wp2_with fail
            go_meet
            exact ⟨by rw [e6], B0⟩
          · have hp1 : (P == -1) = false := by simpa using hp
            clear hp
            go_wp2_with fail
            go_meet
            exact ⟨by rw [e6], B0⟩
        case rest =>
        obtain ⟨h5, B1⟩ := hcut
        subst h5
        clear B0 c0 c1 c2 c3 PC
        obtain ⟨c0, c1, c2, c3⟩ := B1.out.flat
        go_wp2_with fail
        with_reducible refine (H8.out _).mono ?_
        rintro e w2 ⟨rfl, e2⟩
        rw [e2]
        clear e2 w2 H8
        go_upto_if 67 with fail
        go_cut [5] (fun v wx => v = .int .i64 q ∧ Hid (SB w w.heap.size 103 F W P wx))
        case first =>
          rcases PD.out with ⟨hp, e6⟩ | ⟨hp, e6⟩
          · have hp1 : (pp == 0) = true := by simpa using hp
            clear hp
            go_wp2_with fail
            go_meet
            exact ⟨by rw [e6], B1⟩
          · have hp1 : (pp == 0) = false := by simpa using hp
            clear hp
            go_wp2_with fail
            go_meet
            exact ⟨by rw [e6], B1⟩
        case rest =>
        obtain ⟨h5, B2⟩ := hcut
        subst h5
        clear B1 c0 c1 c2 c3 PD
        obtain ⟨c0, c1, c2, c3⟩ := B2.out.flat
        go_wp2_with fail
        with_reducible refine (FG.out _).mono ?_
        rintro e w3 ⟨rfl, b3⟩
        have B3 := hid (B2.out.on b3)
        clear b3 B2 FG c0 c1 c2 c3
        go_wp2_with fail
        with_reducible refine (FX.out _).mono ?_
        rintro e w4 ⟨rfl, b4⟩
        have B4 := hid (B3.out.on b4)
        clear b4 B3 FX
        go_wp2_with fail
        with_reducible refine (PT.out _).mono ?_
        rintro e w6 ⟨rfl, e6⟩
        rw [e6]
        clear e6 w6 PT
        go_wp2_with fail
        go_ret
        exact ⟨rfl, B4.out.bel⟩
      · obtain ⟨c0, c1, c2, c3⟩ := B0.out.flat
        go_enter Tryz.func49, Tryz.ntmps49
        go_upto_if 20 with fail
        go_cut [5] (fun v wx => v = .int .i64 pp ∧ Hid (SB w w.heap.size 71 F W P wx))
        case first =>
          rcases PC.out with ⟨hp, e6⟩ | ⟨hp, e6⟩
          · have hp1 : (P == -1) = true := by simpa using hp
            clear hp
            go_wp2_with fail
            go_meet
            exact ⟨by rw [e6], B0⟩
          · have hp1 : (P == -1) = false := by simpa using hp
            clear hp
            go_wp2_with fail
            go_meet
            exact ⟨by rw [e6], B0⟩
        case rest =>
        obtain ⟨h5, B1⟩ := hcut
        subst h5
        clear B0 c0 c1 c2 c3 PC
        obtain ⟨c0, c1, c2, c3⟩ := B1.out.flat
        go_wp2_with fail
        with_reducible refine (H8.out _).mono ?_
        rintro e w2 ⟨rfl, e2⟩
        rw [e2]
        clear e2 w2 H8
        go_upto_if 67 with fail
        go_cut [5] (fun v wx => v = .int .i64 q ∧ Hid (SB w w.heap.size 71 F W P wx))
        case first =>
          rcases PD.out with ⟨hp, e6⟩ | ⟨hp, e6⟩
          · have hp1 : (pp == 0) = true := by simpa using hp
            clear hp
            go_wp2_with fail
            go_meet
            exact ⟨by rw [e6], B1⟩
          · have hp1 : (pp == 0) = false := by simpa using hp
            clear hp
            go_wp2_with fail
            go_meet
            exact ⟨by rw [e6], B1⟩
        case rest =>
        obtain ⟨h5, B2⟩ := hcut
        subst h5
        clear B1 c0 c1 c2 c3 PD
        obtain ⟨c0, c1, c2, c3⟩ := B2.out.flat
        go_wp2_with fail
        with_reducible refine (FG.out _).mono ?_
        rintro e w3 ⟨rfl, b3⟩
        have B3 := hid (B2.out.on b3)
        clear b3 B2 FG c0 c1 c2 c3
        go_wp2_with fail
        with_reducible refine (FX.out _).mono ?_
        rintro e w4 ⟨rfl, b4⟩
        have B4 := hid (B3.out.on b4)
        clear b4 B3 FX
        go_wp2_with fail
        with_reducible refine (PT.out _).mono ?_
        rintro e w6 ⟨rfl, e6⟩
        rw [e6]
        clear e6 w6 PT
        go_wp2_with fail
        go_ret
        exact ⟨rfl, B4.out.bel⟩
    | false =>
      rw [show Po.st false b = Po.sp b from rfl] at PT
      generalize strOfNums a = sa at *
      generalize strOfNums (Po.sp b) = sp at *
      generalize strOfNums b = sb at *
      rcases hV with rfl | rfl
      · obtain ⟨c0, c1, c2, c3⟩ := B0.out.flat
        go_enter Tryz.func49, Tryz.ntmps49
        go_upto_if 20 with fail
        go_cut [5] (fun v wx => v = .int .i64 pp ∧ Hid (SB w w.heap.size 103 F W P wx))
        case first =>
          rcases PC.out with ⟨hp, e6⟩ | ⟨hp, e6⟩
          · have hp1 : (P == -1) = true := by simpa using hp
            clear hp
            go_wp2_with fail
            go_meet
            exact ⟨by rw [e6], B0⟩
          · have hp1 : (P == -1) = false := by simpa using hp
            clear hp
            go_wp2_with fail
            go_meet
            exact ⟨by rw [e6], B0⟩
        case rest =>
        obtain ⟨h5, B1⟩ := hcut
        subst h5
        clear B0 c0 c1 c2 c3 PC
        obtain ⟨c0, c1, c2, c3⟩ := B1.out.flat
        go_wp2_with fail
        with_reducible refine (H8.out _).mono ?_
        rintro e w2 ⟨rfl, e2⟩
        rw [e2]
        clear e2 w2 H8
        go_upto_if 67 with fail
        go_cut [5] (fun v wx => v = .int .i64 q ∧ Hid (SB w w.heap.size 103 F W P wx))
        case first =>
          rcases PD.out with ⟨hp, e6⟩ | ⟨hp, e6⟩
          · have hp1 : (pp == 0) = true := by simpa using hp
            clear hp
            go_wp2_with fail
            go_meet
            exact ⟨by rw [e6], B1⟩
          · have hp1 : (pp == 0) = false := by simpa using hp
            clear hp
            go_wp2_with fail
            go_meet
            exact ⟨by rw [e6], B1⟩
        case rest =>
        obtain ⟨h5, B2⟩ := hcut
        subst h5
        clear B1 c0 c1 c2 c3 PD
        obtain ⟨c0, c1, c2, c3⟩ := B2.out.flat
        go_wp2_with fail
        with_reducible refine (FG.out _).mono ?_
        rintro e w3 ⟨rfl, b3⟩
        have B3 := hid (B2.out.on b3)
        clear b3 B2 FG c0 c1 c2 c3
        go_wp2_with fail
        with_reducible refine (FX.out _).mono ?_
        rintro e w4 ⟨rfl, b4⟩
        have B4 := hid (B3.out.on b4)
        clear b4 B3 FX
        go_wp2_with fail
        with_reducible refine (SB2.out _).mono ?_
        rintro e w5 ⟨rfl, e5⟩
        rw [e5]
        clear e5 w5 SB2
        go_wp2_with fail
        with_reducible refine (PT.out _).mono ?_
        rintro e w6 ⟨rfl, e6⟩
        rw [e6]
        clear e6 w6 PT
        go_wp2_with fail
        go_ret
        exact ⟨rfl, B4.out.bel⟩
      · obtain ⟨c0, c1, c2, c3⟩ := B0.out.flat
        go_enter Tryz.func49, Tryz.ntmps49
        go_upto_if 20 with fail
        go_cut [5] (fun v wx => v = .int .i64 pp ∧ Hid (SB w w.heap.size 71 F W P wx))
        case first =>
          rcases PC.out with ⟨hp, e6⟩ | ⟨hp, e6⟩
          · have hp1 : (P == -1) = true := by simpa using hp
            clear hp
            go_wp2_with fail
            go_meet
            exact ⟨by rw [e6], B0⟩
          · have hp1 : (P == -1) = false := by simpa using hp
            clear hp
            go_wp2_with fail
            go_meet
            exact ⟨by rw [e6], B0⟩
        case rest =>
        obtain ⟨h5, B1⟩ := hcut
        subst h5
        clear B0 c0 c1 c2 c3 PC
        obtain ⟨c0, c1, c2, c3⟩ := B1.out.flat
        go_wp2_with fail
        with_reducible refine (H8.out _).mono ?_
        rintro e w2 ⟨rfl, e2⟩
        rw [e2]
        clear e2 w2 H8
        go_upto_if 67 with fail
        go_cut [5] (fun v wx => v = .int .i64 q ∧ Hid (SB w w.heap.size 71 F W P wx))
        case first =>
          rcases PD.out with ⟨hp, e6⟩ | ⟨hp, e6⟩
          · have hp1 : (pp == 0) = true := by simpa using hp
            clear hp
            go_wp2_with fail
            go_meet
            exact ⟨by rw [e6], B1⟩
          · have hp1 : (pp == 0) = false := by simpa using hp
            clear hp
            go_wp2_with fail
            go_meet
            exact ⟨by rw [e6], B1⟩
        case rest =>
        obtain ⟨h5, B2⟩ := hcut
        subst h5
        clear B1 c0 c1 c2 c3 PD
        obtain ⟨c0, c1, c2, c3⟩ := B2.out.flat
        go_wp2_with fail
        with_reducible refine (FG.out _).mono ?_
        rintro e w3 ⟨rfl, b3⟩
        have B3 := hid (B2.out.on b3)
        clear b3 B2 FG c0 c1 c2 c3
        go_wp2_with fail
        with_reducible refine (FX.out _).mono ?_
        rintro e w4 ⟨rfl, b4⟩
        have B4 := hid (B3.out.on b4)
        clear b4 B3 FX
        go_wp2_with fail
        with_reducible refine (SB2.out _).mono ?_
        rintro e w5 ⟨rfl, e5⟩
        rw [e5]
        clear e5 w5 SB2
        go_wp2_with fail
        with_reducible refine (PT.out _).mono ?_
        rintro e w6 ⟨rfl, e6⟩
        rw [e6]
        clear e6 w6 PT
        go_wp2_with fail
        go_ret
        exact ⟨rfl, B4.out.bel⟩
  · have PT := hid (fun W' => xpointed_any ((Fx.gS d q).take 1) (Po.st (Wh.bit F 8) ((Fx.gS d q).drop 1)) (Wh.bit F 8) W' ya (Po.digs_by (Po.digs_st _ (Po.digs_drop K.s 1))) la (by have := Po.st_len (Wh.bit F 8) ((Fx.gS d q).drop 1); omega))
    have R : Hid (strOfNums (Po.hd ((Fx.gS d q).take 1) (Po.st (Wh.bit F 8) ((Fx.gS d q).drop 1)) (Wh.bit F 8)) ++ strOfNums (l :: Po.xd (Fx.gK d q)) = strOfNums (Po.bd V (Wh.bit F 8) P d)) := by
      rw [bdE, Po.bdG, if_neg hx, Po.wrt_hd, Po.ex, hl]
      exact xapp (Po.hd_by ya (Po.digs_by (Po.digs_st _ (Po.digs_drop K.s 1)))) (Wh.By.cons ⟨l0, l1⟩ (Po.xd_by _))
    have s1 : ((strOfNums (Po.hd ((Fx.gS d q).take 1) (Po.st (Wh.bit F 8) ((Fx.gS d q).drop 1)) (Wh.bit F 8))).size : Int) ≤ 20001 := by rw [strOfNums_size]; have := Po.hd_len ((Fx.gS d q).take 1) (Po.st (Wh.bit F 8) ((Fx.gS d q).drop 1)) (Wh.bit F 8); have := Po.st_len (Wh.bit F 8) ((Fx.gS d q).drop 1); omega
    clear bdE K hq hn q0 q1 f0 f1 h0 h1 hf hT p0 p1 la ya hVn hVm hl l0 l1 ld
    generalize strOfNums (Po.bd V (Wh.bit F 8) P d) = RR at *
    generalize strOfNums (Po.hd ((Fx.gS d q).take 1) (Po.st (Wh.bit F 8) ((Fx.gS d q).drop 1)) (Wh.bit F 8)) = sh at *
    generalize strOfNums (l :: Po.xd (Fx.gK d q)) = sx at *
    generalize strOfNums ((Fx.gS d q).take 1) = sa at *
    generalize strOfNums (Fx.gS d q) = sg at *
    generalize (Fx.gS d q).length = T at *
    generalize (Fx.gS d q).drop 1 = b at *
    generalize Fx.gK d q = x at *
    generalize Wh.bit F 8 = hh at *
    generalize Po.pr P = pp at *
    have hxd : (¬ -4 ≤ x) ∨ (-4 ≤ x ∧ ¬ x < q) := by omega
    clear hx
    cases hh with
    | true =>
      rw [show Po.st true b = b from rfl] at PT
      clear ST
      generalize strOfNums b = sb at *
      rcases hV with rfl | rfl
      · have hl := hl1 rfl
        subst hl
        have lit : strOfNums [101] = ⟨#[101]⟩ := rfl
        rw [lit] at EX
        clear lit hl1 hl2
        rcases hxd with hx1 | ⟨hx1, hx2⟩
        · have hxq : decide (-4 ≤ x) = false := decide_eq_false hx1
          obtain ⟨c0, c1, c2, c3⟩ := B0.out.flat
          go_enter Tryz.func49, Tryz.ntmps49
          go_upto_if 20 with fail
          go_cut [5] (fun v wx => v = .int .i64 pp ∧ Hid (SB w w.heap.size 103 F W P wx))
          case first =>
            rcases PC.out with ⟨hp, e6⟩ | ⟨hp, e6⟩
            · have hp1 : (P == -1) = true := by simpa using hp
              clear hp
              go_wp2_with fail
              go_meet
              exact ⟨by rw [e6], B0⟩
            · have hp1 : (P == -1) = false := by simpa using hp
              clear hp
              go_wp2_with fail
              go_meet
              exact ⟨by rw [e6], B0⟩
          case rest =>
          obtain ⟨h5, B1⟩ := hcut
          subst h5
          clear B0 c0 c1 c2 c3 PC
          obtain ⟨c0, c1, c2, c3⟩ := B1.out.flat
          go_wp2_with fail
          with_reducible refine (H8.out _).mono ?_
          rintro e w2 ⟨rfl, e2⟩
          rw [e2]
          clear e2 w2 H8
          go_upto_if 67 with fail
          go_cut [5] (fun v wx => v = .int .i64 q ∧ Hid (SB w w.heap.size 103 F W P wx))
          case first =>
            rcases PD.out with ⟨hp, e6⟩ | ⟨hp, e6⟩
            · have hp1 : (pp == 0) = true := by simpa using hp
              clear hp
              go_wp2_with fail
              go_meet
              exact ⟨by rw [e6], B1⟩
            · have hp1 : (pp == 0) = false := by simpa using hp
              clear hp
              go_wp2_with fail
              go_meet
              exact ⟨by rw [e6], B1⟩
          case rest =>
          obtain ⟨h5, B2⟩ := hcut
          subst h5
          clear B1 c0 c1 c2 c3 PD
          obtain ⟨c0, c1, c2, c3⟩ := B2.out.flat
          go_wp2_with fail
          with_reducible refine (FG.out _).mono ?_
          rintro e w3 ⟨rfl, b3⟩
          have B3 := hid (B2.out.on b3)
          clear b3 B2 FG c0 c1 c2 c3
          go_wp2_with fail
          with_reducible refine (PT.out _).mono ?_
          rintro e w6 ⟨rfl, e6⟩
          rw [e6]
          clear e6 w6 PT
          go_wp2_with fail
          with_reducible refine (EX.out _ (TB.out _ B3.out.bel)).mono ?_
          rintro e w7 ⟨rfl, b7⟩
          have B7 := hid (B3.out.on b7)
          clear b7 B3 EX
          go_wp2_with fail
          go_ret
          exact ⟨ret_str R.out, B7.out.bel⟩
        · obtain ⟨c0, c1, c2, c3⟩ := B0.out.flat
          go_enter Tryz.func49, Tryz.ntmps49
          go_upto_if 20 with fail
          go_cut [5] (fun v wx => v = .int .i64 pp ∧ Hid (SB w w.heap.size 103 F W P wx))
          case first =>
            rcases PC.out with ⟨hp, e6⟩ | ⟨hp, e6⟩
            · have hp1 : (P == -1) = true := by simpa using hp
              clear hp
              go_wp2_with fail
              go_meet
              exact ⟨by rw [e6], B0⟩
            · have hp1 : (P == -1) = false := by simpa using hp
              clear hp
              go_wp2_with fail
              go_meet
              exact ⟨by rw [e6], B0⟩
          case rest =>
          obtain ⟨h5, B1⟩ := hcut
          subst h5
          clear B0 c0 c1 c2 c3 PC
          obtain ⟨c0, c1, c2, c3⟩ := B1.out.flat
          go_wp2_with fail
          with_reducible refine (H8.out _).mono ?_
          rintro e w2 ⟨rfl, e2⟩
          rw [e2]
          clear e2 w2 H8
          go_upto_if 67 with fail
          go_cut [5] (fun v wx => v = .int .i64 q ∧ Hid (SB w w.heap.size 103 F W P wx))
          case first =>
            rcases PD.out with ⟨hp, e6⟩ | ⟨hp, e6⟩
            · have hp1 : (pp == 0) = true := by simpa using hp
              clear hp
              go_wp2_with fail
              go_meet
              exact ⟨by rw [e6], B1⟩
            · have hp1 : (pp == 0) = false := by simpa using hp
              clear hp
              go_wp2_with fail
              go_meet
              exact ⟨by rw [e6], B1⟩
          case rest =>
          obtain ⟨h5, B2⟩ := hcut
          subst h5
          clear B1 c0 c1 c2 c3 PD
          obtain ⟨c0, c1, c2, c3⟩ := B2.out.flat
          go_wp2_with fail
          with_reducible refine (FG.out _).mono ?_
          rintro e w3 ⟨rfl, b3⟩
          have B3 := hid (B2.out.on b3)
          clear b3 B2 FG c0 c1 c2 c3
          go_wp2_with fail
          with_reducible refine (PT.out _).mono ?_
          rintro e w6 ⟨rfl, e6⟩
          rw [e6]
          clear e6 w6 PT
          go_wp2_with fail
          with_reducible refine (EX.out _ (TB.out _ B3.out.bel)).mono ?_
          rintro e w7 ⟨rfl, b7⟩
          have B7 := hid (B3.out.on b7)
          clear b7 B3 EX
          go_wp2_with fail
          go_ret
          exact ⟨ret_str R.out, B7.out.bel⟩
      · have hl := hl2 rfl
        subst hl
        have lit : strOfNums [69] = ⟨#[69]⟩ := rfl
        rw [lit] at EX
        clear lit hl1 hl2
        rcases hxd with hx1 | ⟨hx1, hx2⟩
        · have hxq : decide (-4 ≤ x) = false := decide_eq_false hx1
          obtain ⟨c0, c1, c2, c3⟩ := B0.out.flat
          go_enter Tryz.func49, Tryz.ntmps49
          go_upto_if 20 with fail
          go_cut [5] (fun v wx => v = .int .i64 pp ∧ Hid (SB w w.heap.size 71 F W P wx))
          case first =>
            rcases PC.out with ⟨hp, e6⟩ | ⟨hp, e6⟩
            · have hp1 : (P == -1) = true := by simpa using hp
              clear hp
              go_wp2_with fail
              go_meet
              exact ⟨by rw [e6], B0⟩
            · have hp1 : (P == -1) = false := by simpa using hp
              clear hp
              go_wp2_with fail
              go_meet
              exact ⟨by rw [e6], B0⟩
          case rest =>
          obtain ⟨h5, B1⟩ := hcut
          subst h5
          clear B0 c0 c1 c2 c3 PC
          obtain ⟨c0, c1, c2, c3⟩ := B1.out.flat
          go_wp2_with fail
          with_reducible refine (H8.out _).mono ?_
          rintro e w2 ⟨rfl, e2⟩
          rw [e2]
          clear e2 w2 H8
          go_upto_if 67 with fail
          go_cut [5] (fun v wx => v = .int .i64 q ∧ Hid (SB w w.heap.size 71 F W P wx))
          case first =>
            rcases PD.out with ⟨hp, e6⟩ | ⟨hp, e6⟩
            · have hp1 : (pp == 0) = true := by simpa using hp
              clear hp
              go_wp2_with fail
              go_meet
              exact ⟨by rw [e6], B1⟩
            · have hp1 : (pp == 0) = false := by simpa using hp
              clear hp
              go_wp2_with fail
              go_meet
              exact ⟨by rw [e6], B1⟩
          case rest =>
          obtain ⟨h5, B2⟩ := hcut
          subst h5
          clear B1 c0 c1 c2 c3 PD
          obtain ⟨c0, c1, c2, c3⟩ := B2.out.flat
          go_wp2_with fail
          with_reducible refine (FG.out _).mono ?_
          rintro e w3 ⟨rfl, b3⟩
          have B3 := hid (B2.out.on b3)
          clear b3 B2 FG c0 c1 c2 c3
          go_wp2_with fail
          with_reducible refine (PT.out _).mono ?_
          rintro e w6 ⟨rfl, e6⟩
          rw [e6]
          clear e6 w6 PT
          go_wp2_with fail
          with_reducible refine (EX.out _ (TB.out _ B3.out.bel)).mono ?_
          rintro e w7 ⟨rfl, b7⟩
          have B7 := hid (B3.out.on b7)
          clear b7 B3 EX
          go_wp2_with fail
          go_ret
          exact ⟨ret_str R.out, B7.out.bel⟩
        · obtain ⟨c0, c1, c2, c3⟩ := B0.out.flat
          go_enter Tryz.func49, Tryz.ntmps49
          go_upto_if 20 with fail
          go_cut [5] (fun v wx => v = .int .i64 pp ∧ Hid (SB w w.heap.size 71 F W P wx))
          case first =>
            rcases PC.out with ⟨hp, e6⟩ | ⟨hp, e6⟩
            · have hp1 : (P == -1) = true := by simpa using hp
              clear hp
              go_wp2_with fail
              go_meet
              exact ⟨by rw [e6], B0⟩
            · have hp1 : (P == -1) = false := by simpa using hp
              clear hp
              go_wp2_with fail
              go_meet
              exact ⟨by rw [e6], B0⟩
          case rest =>
          obtain ⟨h5, B1⟩ := hcut
          subst h5
          clear B0 c0 c1 c2 c3 PC
          obtain ⟨c0, c1, c2, c3⟩ := B1.out.flat
          go_wp2_with fail
          with_reducible refine (H8.out _).mono ?_
          rintro e w2 ⟨rfl, e2⟩
          rw [e2]
          clear e2 w2 H8
          go_upto_if 67 with fail
          go_cut [5] (fun v wx => v = .int .i64 q ∧ Hid (SB w w.heap.size 71 F W P wx))
          case first =>
            rcases PD.out with ⟨hp, e6⟩ | ⟨hp, e6⟩
            · have hp1 : (pp == 0) = true := by simpa using hp
              clear hp
              go_wp2_with fail
              go_meet
              exact ⟨by rw [e6], B1⟩
            · have hp1 : (pp == 0) = false := by simpa using hp
              clear hp
              go_wp2_with fail
              go_meet
              exact ⟨by rw [e6], B1⟩
          case rest =>
          obtain ⟨h5, B2⟩ := hcut
          subst h5
          clear B1 c0 c1 c2 c3 PD
          obtain ⟨c0, c1, c2, c3⟩ := B2.out.flat
          go_wp2_with fail
          with_reducible refine (FG.out _).mono ?_
          rintro e w3 ⟨rfl, b3⟩
          have B3 := hid (B2.out.on b3)
          clear b3 B2 FG c0 c1 c2 c3
          go_wp2_with fail
          with_reducible refine (PT.out _).mono ?_
          rintro e w6 ⟨rfl, e6⟩
          rw [e6]
          clear e6 w6 PT
          go_wp2_with fail
          with_reducible refine (EX.out _ (TB.out _ B3.out.bel)).mono ?_
          rintro e w7 ⟨rfl, b7⟩
          have B7 := hid (B3.out.on b7)
          clear b7 B3 EX
          go_wp2_with fail
          go_ret
          exact ⟨ret_str R.out, B7.out.bel⟩
    | false =>
      rw [show Po.st false b = Po.sp b from rfl] at PT
      generalize strOfNums (Po.sp b) = sp at *
      generalize strOfNums b = sb at *
      rcases hV with rfl | rfl
      · have hl := hl1 rfl
        subst hl
        have lit : strOfNums [101] = ⟨#[101]⟩ := rfl
        rw [lit] at EX
        clear lit hl1 hl2
        rcases hxd with hx1 | ⟨hx1, hx2⟩
        · have hxq : decide (-4 ≤ x) = false := decide_eq_false hx1
          obtain ⟨c0, c1, c2, c3⟩ := B0.out.flat
          go_enter Tryz.func49, Tryz.ntmps49
          go_upto_if 20 with fail
          go_cut [5] (fun v wx => v = .int .i64 pp ∧ Hid (SB w w.heap.size 103 F W P wx))
          case first =>
            rcases PC.out with ⟨hp, e6⟩ | ⟨hp, e6⟩
            · have hp1 : (P == -1) = true := by simpa using hp
              clear hp
              go_wp2_with fail
              go_meet
              exact ⟨by rw [e6], B0⟩
            · have hp1 : (P == -1) = false := by simpa using hp
              clear hp
              go_wp2_with fail
              go_meet
              exact ⟨by rw [e6], B0⟩
          case rest =>
          obtain ⟨h5, B1⟩ := hcut
          subst h5
          clear B0 c0 c1 c2 c3 PC
          obtain ⟨c0, c1, c2, c3⟩ := B1.out.flat
          go_wp2_with fail
          with_reducible refine (H8.out _).mono ?_
          rintro e w2 ⟨rfl, e2⟩
          rw [e2]
          clear e2 w2 H8
          go_upto_if 67 with fail
          go_cut [5] (fun v wx => v = .int .i64 q ∧ Hid (SB w w.heap.size 103 F W P wx))
          case first =>
            rcases PD.out with ⟨hp, e6⟩ | ⟨hp, e6⟩
            · have hp1 : (pp == 0) = true := by simpa using hp
              clear hp
              go_wp2_with fail
              go_meet
              exact ⟨by rw [e6], B1⟩
            · have hp1 : (pp == 0) = false := by simpa using hp
              clear hp
              go_wp2_with fail
              go_meet
              exact ⟨by rw [e6], B1⟩
          case rest =>
          obtain ⟨h5, B2⟩ := hcut
          subst h5
          clear B1 c0 c1 c2 c3 PD
          obtain ⟨c0, c1, c2, c3⟩ := B2.out.flat
          go_wp2_with fail
          with_reducible refine (FG.out _).mono ?_
          rintro e w3 ⟨rfl, b3⟩
          have B3 := hid (B2.out.on b3)
          clear b3 B2 FG c0 c1 c2 c3
          go_wp2_with fail
          with_reducible refine (ST.out _).mono ?_
          rintro e w5 ⟨rfl, e5⟩
          rw [e5]
          clear e5 w5 ST
          go_wp2_with fail
          with_reducible refine (PT.out _).mono ?_
          rintro e w6 ⟨rfl, e6⟩
          rw [e6]
          clear e6 w6 PT
          go_wp2_with fail
          with_reducible refine (EX.out _ (TB.out _ B3.out.bel)).mono ?_
          rintro e w7 ⟨rfl, b7⟩
          have B7 := hid (B3.out.on b7)
          clear b7 B3 EX
          go_wp2_with fail
          go_ret
          exact ⟨ret_str R.out, B7.out.bel⟩
        · obtain ⟨c0, c1, c2, c3⟩ := B0.out.flat
          go_enter Tryz.func49, Tryz.ntmps49
          go_upto_if 20 with fail
          go_cut [5] (fun v wx => v = .int .i64 pp ∧ Hid (SB w w.heap.size 103 F W P wx))
          case first =>
            rcases PC.out with ⟨hp, e6⟩ | ⟨hp, e6⟩
            · have hp1 : (P == -1) = true := by simpa using hp
              clear hp
              go_wp2_with fail
              go_meet
              exact ⟨by rw [e6], B0⟩
            · have hp1 : (P == -1) = false := by simpa using hp
              clear hp
              go_wp2_with fail
              go_meet
              exact ⟨by rw [e6], B0⟩
          case rest =>
          obtain ⟨h5, B1⟩ := hcut
          subst h5
          clear B0 c0 c1 c2 c3 PC
          obtain ⟨c0, c1, c2, c3⟩ := B1.out.flat
          go_wp2_with fail
          with_reducible refine (H8.out _).mono ?_
          rintro e w2 ⟨rfl, e2⟩
          rw [e2]
          clear e2 w2 H8
          go_upto_if 67 with fail
          go_cut [5] (fun v wx => v = .int .i64 q ∧ Hid (SB w w.heap.size 103 F W P wx))
          case first =>
            rcases PD.out with ⟨hp, e6⟩ | ⟨hp, e6⟩
            · have hp1 : (pp == 0) = true := by simpa using hp
              clear hp
              go_wp2_with fail
              go_meet
              exact ⟨by rw [e6], B1⟩
            · have hp1 : (pp == 0) = false := by simpa using hp
              clear hp
              go_wp2_with fail
              go_meet
              exact ⟨by rw [e6], B1⟩
          case rest =>
          obtain ⟨h5, B2⟩ := hcut
          subst h5
          clear B1 c0 c1 c2 c3 PD
          obtain ⟨c0, c1, c2, c3⟩ := B2.out.flat
          go_wp2_with fail
          with_reducible refine (FG.out _).mono ?_
          rintro e w3 ⟨rfl, b3⟩
          have B3 := hid (B2.out.on b3)
          clear b3 B2 FG c0 c1 c2 c3
          go_wp2_with fail
          with_reducible refine (ST.out _).mono ?_
          rintro e w5 ⟨rfl, e5⟩
          rw [e5]
          clear e5 w5 ST
          go_wp2_with fail
          with_reducible refine (PT.out _).mono ?_
          rintro e w6 ⟨rfl, e6⟩
          rw [e6]
          clear e6 w6 PT
          go_wp2_with fail
          with_reducible refine (EX.out _ (TB.out _ B3.out.bel)).mono ?_
          rintro e w7 ⟨rfl, b7⟩
          have B7 := hid (B3.out.on b7)
          clear b7 B3 EX
          go_wp2_with fail
          go_ret
          exact ⟨ret_str R.out, B7.out.bel⟩
      · have hl := hl2 rfl
        subst hl
        have lit : strOfNums [69] = ⟨#[69]⟩ := rfl
        rw [lit] at EX
        clear lit hl1 hl2
        rcases hxd with hx1 | ⟨hx1, hx2⟩
        · have hxq : decide (-4 ≤ x) = false := decide_eq_false hx1
          obtain ⟨c0, c1, c2, c3⟩ := B0.out.flat
          go_enter Tryz.func49, Tryz.ntmps49
          go_upto_if 20 with fail
          go_cut [5] (fun v wx => v = .int .i64 pp ∧ Hid (SB w w.heap.size 71 F W P wx))
          case first =>
            rcases PC.out with ⟨hp, e6⟩ | ⟨hp, e6⟩
            · have hp1 : (P == -1) = true := by simpa using hp
              clear hp
              go_wp2_with fail
              go_meet
              exact ⟨by rw [e6], B0⟩
            · have hp1 : (P == -1) = false := by simpa using hp
              clear hp
              go_wp2_with fail
              go_meet
              exact ⟨by rw [e6], B0⟩
          case rest =>
          obtain ⟨h5, B1⟩ := hcut
          subst h5
          clear B0 c0 c1 c2 c3 PC
          obtain ⟨c0, c1, c2, c3⟩ := B1.out.flat
          go_wp2_with fail
          with_reducible refine (H8.out _).mono ?_
          rintro e w2 ⟨rfl, e2⟩
          rw [e2]
          clear e2 w2 H8
          go_upto_if 67 with fail
          go_cut [5] (fun v wx => v = .int .i64 q ∧ Hid (SB w w.heap.size 71 F W P wx))
          case first =>
            rcases PD.out with ⟨hp, e6⟩ | ⟨hp, e6⟩
            · have hp1 : (pp == 0) = true := by simpa using hp
              clear hp
              go_wp2_with fail
              go_meet
              exact ⟨by rw [e6], B1⟩
            · have hp1 : (pp == 0) = false := by simpa using hp
              clear hp
              go_wp2_with fail
              go_meet
              exact ⟨by rw [e6], B1⟩
          case rest =>
          obtain ⟨h5, B2⟩ := hcut
          subst h5
          clear B1 c0 c1 c2 c3 PD
          obtain ⟨c0, c1, c2, c3⟩ := B2.out.flat
          go_wp2_with fail
          with_reducible refine (FG.out _).mono ?_
          rintro e w3 ⟨rfl, b3⟩
          have B3 := hid (B2.out.on b3)
          clear b3 B2 FG c0 c1 c2 c3
          go_wp2_with fail
          with_reducible refine (ST.out _).mono ?_
          rintro e w5 ⟨rfl, e5⟩
          rw [e5]
          clear e5 w5 ST
          go_wp2_with fail
          with_reducible refine (PT.out _).mono ?_
          rintro e w6 ⟨rfl, e6⟩
          rw [e6]
          clear e6 w6 PT
          go_wp2_with fail
          with_reducible refine (EX.out _ (TB.out _ B3.out.bel)).mono ?_
          rintro e w7 ⟨rfl, b7⟩
          have B7 := hid (B3.out.on b7)
          clear b7 B3 EX
          go_wp2_with fail
          go_ret
          exact ⟨ret_str R.out, B7.out.bel⟩
        · obtain ⟨c0, c1, c2, c3⟩ := B0.out.flat
          go_enter Tryz.func49, Tryz.ntmps49
          go_upto_if 20 with fail
          go_cut [5] (fun v wx => v = .int .i64 pp ∧ Hid (SB w w.heap.size 71 F W P wx))
          case first =>
            rcases PC.out with ⟨hp, e6⟩ | ⟨hp, e6⟩
            · have hp1 : (P == -1) = true := by simpa using hp
              clear hp
              go_wp2_with fail
              go_meet
              exact ⟨by rw [e6], B0⟩
            · have hp1 : (P == -1) = false := by simpa using hp
              clear hp
              go_wp2_with fail
              go_meet
              exact ⟨by rw [e6], B0⟩
          case rest =>
          obtain ⟨h5, B1⟩ := hcut
          subst h5
          clear B0 c0 c1 c2 c3 PC
          obtain ⟨c0, c1, c2, c3⟩ := B1.out.flat
          go_wp2_with fail
          with_reducible refine (H8.out _).mono ?_
          rintro e w2 ⟨rfl, e2⟩
          rw [e2]
          clear e2 w2 H8
          go_upto_if 67 with fail
          go_cut [5] (fun v wx => v = .int .i64 q ∧ Hid (SB w w.heap.size 71 F W P wx))
          case first =>
            rcases PD.out with ⟨hp, e6⟩ | ⟨hp, e6⟩
            · have hp1 : (pp == 0) = true := by simpa using hp
              clear hp
              go_wp2_with fail
              go_meet
              exact ⟨by rw [e6], B1⟩
            · have hp1 : (pp == 0) = false := by simpa using hp
              clear hp
              go_wp2_with fail
              go_meet
              exact ⟨by rw [e6], B1⟩
          case rest =>
          obtain ⟨h5, B2⟩ := hcut
          subst h5
          clear B1 c0 c1 c2 c3 PD
          obtain ⟨c0, c1, c2, c3⟩ := B2.out.flat
          go_wp2_with fail
          with_reducible refine (FG.out _).mono ?_
          rintro e w3 ⟨rfl, b3⟩
          have B3 := hid (B2.out.on b3)
          clear b3 B2 FG c0 c1 c2 c3
          go_wp2_with fail
          with_reducible refine (ST.out _).mono ?_
          rintro e w5 ⟨rfl, e5⟩
          rw [e5]
          clear e5 w5 ST
          go_wp2_with fail
          with_reducible refine (PT.out _).mono ?_
          rintro e w6 ⟨rfl, e6⟩
          rw [e6]
          clear e6 w6 PT
          go_wp2_with fail
          with_reducible refine (EX.out _ (TB.out _ B3.out.bel)).mono ?_
          rintro e w7 ⟨rfl, b7⟩
          have B7 := hid (B3.out.on b7)
          clear b7 B3 EX
          go_wp2_with fail
          go_ret
          exact ⟨ret_str R.out, B7.out.bel⟩
end Go.Proofs.YtaoaniigbooihaaGreatDoor

namespace Go.Proofs.YtaoaniigbooihaaGreatDoor
open Go Go.RowKit Go.Deep Go.Shelf

theorem xbody_any (V F W P d : Int) (w : World) (hT : Tab10 w) (hV : Po.okV V = true) (f0 : 0 ≤ F) (f1 : F ≤ 31) (p0 : -1 ≤ P) (p1 : P ≤ 4096) (h0 : 0 ≤ d) (h1 : d < 18446744073709551616) (hf : Ie.fnt d = true) :
    Calls Tryz.prog 49 #[.agg #[.int .u8 V, .int .i64 F, .int .i64 W, .int .i64 P], .int .u64 d] w fun e w' => e = .returned (.string (strOfNums (Po.bd V (Wh.bit F 8) P d))) ∧ Below w.heap.size w w' := by
  have hV := of_decide_eq_true hV
  rcases (show (V = 102 ∨ V = 70) ∨ (V = 101 ∨ V = 69) ∨ (V = 103 ∨ V = 71) by omega) with hv | hv | hv
  · exact xbody_f V F W P d w hT hv f0 f1 p0 p1 h0 h1 hf
  · exact xbody_e V F W P d w hT hv f0 f1 p0 p1 h0 h1 hf
  · exact xbody_g V F W P d w hT hv f0 f1 p0 p1 h0 h1 hf

set_option maxRecDepth 100000 in
set_option maxHeartbeats 8000000 in
theorem xrender_any (V F W P d : Int) (w : World) (hT : Tab10 w) (v0 : 0 ≤ V) (v1 : V < 256) (h0 : 0 ≤ d) (h1 : d < 18446744073709551616) :
    Calls Tryz.prog 28 #[.agg #[.int .u8 V, .int .i64 F, .int .i64 W, .int .i64 P], .int .u64 d] w fun e w' => RenTold V F W P d w e w' := by
  have B0 := hid (SB.new w V F W P)
  have TB : Hid (∀ wk, Below w.heap.size w wk → Tab10 wk) := fun wk k => hT.bel k
  have SP := hid (fun W' => xspecial_any V F W P d W' v0 v1 h0 h1)
  unfold SpcTold at SP
  by_cases hV : Po.okV V = true
  · have hR : Po.renE V F W P = Wh.chk F W P := by rw [Po.renE, if_pos hV]
    have VC := hid (of_decide_eq_true hV)
    by_cases hc : Wh.chk F W P = 0
    · obtain ⟨⟨f0, f1⟩, ⟨wl, wu⟩, ⟨p0, p1⟩⟩ := Wh.chk_ok hc
      by_cases hf : Ie.fnt d = true
      · have sp1 : Po.spb F W P d = false := by rw [Po.spb, hf]; simp
        have BO := hid (fun W' (ht : Tab10 W') => xbody_any V F W P d W' ht hV f0 f1 p0 p1 h0 h1 hf)
        obtain ⟨bb, bl⟩ := Po.bd_ok (V := V) (P := P) (d := d) (Wh.bit F 8) hf p0 p1
        have LD := hid (fun W' => xlaid_any V F W P (decide (9223372036854775808 ≤ d)) true (Po.bd V (Wh.bit F 8) P d) W' f0 f1 wl wu bb (by omega))
        have G : Hid (∀ w', Below w.heap.size w w' → RenTold V F W P d w (.returned (.tuple #[.string (strOfNums (Wh.padT F W true (Wh.sgn F (decide (9223372036854775808 ≤ d))) (Po.bd V (Wh.bit F 8) P d))), .int .i64 0])) w') := fun w' k => by
          refine ⟨?_, k⟩
          rw [Po.ren, hR, if_pos hc, if_pos hf, hc]
          rfl
        rw [sp1, hc] at SP
        clear hT v0 v1 h0 h1 hV hR hc hf f0 f1 p0 p1 bb bl sp1 wl wu
        generalize Po.spc V F W P d = SC at *
        generalize strOfNums (Wh.padT F W true (Wh.sgn F (decide (9223372036854775808 ≤ d))) (Po.bd V (Wh.bit F 8) P d)) = RR at *
        generalize strOfNums (Po.bd V (Wh.bit F 8) P d) = sb at *
        obtain ⟨c0, c1, c2, c3⟩ := B0.out.flat
        go_enter Tryz.func28, Tryz.ntmps28
        go_upto_block 0 with fail
        go_cut [11] (fun _ wx => Hid (SB w w.heap.size V F W P wx))
        case first =>
          rcases VC.out with h | h | h | h | h | h
          · have k0 : (V == 101) = true := by rw [h]; rfl
            clear h
            go_wp2_with fail
            go_meet
            exact B0
          · have k0 : (V == 101) = false := by rw [h]; rfl
            have k1 : (V == 69) = true := by rw [h]; rfl
            clear h
            go_wp2_with fail
            go_meet
            exact B0
          · have k0 : (V == 101) = false := by rw [h]; rfl
            have k1 : (V == 69) = false := by rw [h]; rfl
            have k2 : (V == 102) = true := by rw [h]; rfl
            clear h
            go_wp2_with fail
            go_meet
            exact B0
          · have k0 : (V == 101) = false := by rw [h]; rfl
            have k1 : (V == 69) = false := by rw [h]; rfl
            have k2 : (V == 102) = false := by rw [h]; rfl
            have k3 : (V == 70) = true := by rw [h]; rfl
            clear h
            go_wp2_with fail
            go_meet
            exact B0
          · have k0 : (V == 101) = false := by rw [h]; rfl
            have k1 : (V == 69) = false := by rw [h]; rfl
            have k2 : (V == 102) = false := by rw [h]; rfl
            have k3 : (V == 70) = false := by rw [h]; rfl
            have k4 : (V == 103) = true := by rw [h]; rfl
            clear h
            go_wp2_with fail
            go_meet
            exact B0
          · have k0 : (V == 101) = false := by rw [h]; rfl
            have k1 : (V == 69) = false := by rw [h]; rfl
            have k2 : (V == 102) = false := by rw [h]; rfl
            have k3 : (V == 70) = false := by rw [h]; rfl
            have k4 : (V == 103) = false := by rw [h]; rfl
            have k5 : (V == 71) = true := by rw [h]; rfl
            clear h
            go_wp2_with fail
            go_meet
            exact B0
        case rest =>
        have B1 := hcut
        clear B0 c0 c1 c2 c3 VC
        obtain ⟨c0, c1, c2, c3⟩ := B1.out.flat
        go_wp2_with fail
        with_reducible refine (SP.out _).mono ?_
        rintro e w2 ⟨rfl, b2⟩
        have B2 := hid (B1.out.on b2)
        clear b2 B1 SP c0 c1 c2 c3
        obtain ⟨c0, c1, c2, c3⟩ := B2.out.flat
        go_upto_region 12 with fail
        have T1 := hid B2.out.drew
        go_region_held3 (fun wx => wx.cell? ⟨w.heap.size, 0, none⟩ = some (.int .u8 V) ∧ wx.cell? ⟨w.heap.size, 1, none⟩ = some (.int .i64 F) ∧ wx.cell? ⟨w.heap.size, 2, none⟩ = some (.int .i64 W) ∧ wx.cell? ⟨w.heap.size, 3, none⟩ = some (.int .i64 P)) (first | (with_reducible exact T3.out.flat) | (with_reducible exact T2.out.flat) | (with_reducible exact T1.out.flat)) (first
          | (go_at_call 49; with_reducible refine (BO.out _ (TB.out _ T1.out.bel)).mono ?_; rintro e wa ⟨rfl, hB⟩; have T2 := hid (T1.out.on hB); clear hB)
          | (go_at_call 48; with_reducible refine (LD.out _).mono ?_; rintro e wb ⟨rfl, hB⟩; have T3 := hid (T2.out.on hB); clear hB))
        go_wp2_with fail
        go_ret2
        exact G.out _ T3.out.bel
      · have hf' : Ie.fnt d = false := by simpa using hf
        have sp1 : Po.spb F W P d = true := by rw [Po.spb, hf', hc]; rfl
        have sp2 : Po.spc V F W P d = Po.ren V F W P d := by rw [Po.spc, if_pos ⟨hc, hf'⟩, Po.ren, hR, if_pos hc, if_neg hf]
        have G : Hid (∀ w', Below w.heap.size w w' → RenTold V F W P d w (.returned (.tuple #[.string (strOfNums (Po.ren V F W P d)), .int .i64 0])) w') := fun w' k => ⟨by rw [hR, hc], k⟩
        rw [sp1, sp2, hc] at SP
        clear hT v0 v1 h0 h1 hV hR hc hf hf' f0 f1 p0 p1 sp1 sp2
        generalize Po.ren V F W P d = RN at *
        obtain ⟨c0, c1, c2, c3⟩ := B0.out.flat
        go_enter Tryz.func28, Tryz.ntmps28
        go_upto_block 0 with fail
        go_cut [11] (fun _ wx => Hid (SB w w.heap.size V F W P wx))
        case first =>
          rcases VC.out with h | h | h | h | h | h
          · have k0 : (V == 101) = true := by rw [h]; rfl
            clear h
            go_wp2_with fail
            go_meet
            exact B0
          · have k0 : (V == 101) = false := by rw [h]; rfl
            have k1 : (V == 69) = true := by rw [h]; rfl
            clear h
            go_wp2_with fail
            go_meet
            exact B0
          · have k0 : (V == 101) = false := by rw [h]; rfl
            have k1 : (V == 69) = false := by rw [h]; rfl
            have k2 : (V == 102) = true := by rw [h]; rfl
            clear h
            go_wp2_with fail
            go_meet
            exact B0
          · have k0 : (V == 101) = false := by rw [h]; rfl
            have k1 : (V == 69) = false := by rw [h]; rfl
            have k2 : (V == 102) = false := by rw [h]; rfl
            have k3 : (V == 70) = true := by rw [h]; rfl
            clear h
            go_wp2_with fail
            go_meet
            exact B0
          · have k0 : (V == 101) = false := by rw [h]; rfl
            have k1 : (V == 69) = false := by rw [h]; rfl
            have k2 : (V == 102) = false := by rw [h]; rfl
            have k3 : (V == 70) = false := by rw [h]; rfl
            have k4 : (V == 103) = true := by rw [h]; rfl
            clear h
            go_wp2_with fail
            go_meet
            exact B0
          · have k0 : (V == 101) = false := by rw [h]; rfl
            have k1 : (V == 69) = false := by rw [h]; rfl
            have k2 : (V == 102) = false := by rw [h]; rfl
            have k3 : (V == 70) = false := by rw [h]; rfl
            have k4 : (V == 103) = false := by rw [h]; rfl
            have k5 : (V == 71) = true := by rw [h]; rfl
            clear h
            go_wp2_with fail
            go_meet
            exact B0
        case rest =>
        have B1 := hcut
        clear B0 c0 c1 c2 c3 VC
        obtain ⟨c0, c1, c2, c3⟩ := B1.out.flat
        go_wp2_with fail
        with_reducible refine (SP.out _).mono ?_
        rintro e w2 ⟨rfl, b2⟩
        have B2 := hid (B1.out.on b2)
        clear b2 B1 SP c0 c1 c2 c3
        obtain ⟨c0, c1, c2, c3⟩ := B2.out.flat
        go_wp2_with fail
        go_ret2
        exact G.out _ B2.out.bel
    · have sp2 : Po.spc V F W P d = Po.ren V F W P d := by rw [Po.spc, if_neg (fun q => hc q.1), Po.ren, hR, if_neg hc]
      have G : Hid (∀ w', Below w.heap.size w w' → RenTold V F W P d w (.returned (.tuple #[.string (strOfNums (Po.ren V F W P d)), .int .i64 (Wh.chk F W P)])) w') := fun w' k => ⟨by rw [hR], k⟩
      have hne : (Wh.chk F W P != 0) = true := by simpa using hc
      have hne2 : (Wh.chk F W P == 0) = false := by simpa using hc
      rw [sp2] at SP
      clear hT v0 v1 h0 h1 hV hR hc sp2
      generalize Po.ren V F W P d = RN at *
      generalize Po.spb F W P d = sb at *
      generalize Wh.chk F W P = E at *
      obtain ⟨c0, c1, c2, c3⟩ := B0.out.flat
      go_enter Tryz.func28, Tryz.ntmps28
      go_upto_block 0 with fail
      go_cut [11] (fun _ wx => Hid (SB w w.heap.size V F W P wx))
      case first =>
        rcases VC.out with h | h | h | h | h | h
        · have k0 : (V == 101) = true := by rw [h]; rfl
          clear h
          go_wp2_with fail
          go_meet
          exact B0
        · have k0 : (V == 101) = false := by rw [h]; rfl
          have k1 : (V == 69) = true := by rw [h]; rfl
          clear h
          go_wp2_with fail
          go_meet
          exact B0
        · have k0 : (V == 101) = false := by rw [h]; rfl
          have k1 : (V == 69) = false := by rw [h]; rfl
          have k2 : (V == 102) = true := by rw [h]; rfl
          clear h
          go_wp2_with fail
          go_meet
          exact B0
        · have k0 : (V == 101) = false := by rw [h]; rfl
          have k1 : (V == 69) = false := by rw [h]; rfl
          have k2 : (V == 102) = false := by rw [h]; rfl
          have k3 : (V == 70) = true := by rw [h]; rfl
          clear h
          go_wp2_with fail
          go_meet
          exact B0
        · have k0 : (V == 101) = false := by rw [h]; rfl
          have k1 : (V == 69) = false := by rw [h]; rfl
          have k2 : (V == 102) = false := by rw [h]; rfl
          have k3 : (V == 70) = false := by rw [h]; rfl
          have k4 : (V == 103) = true := by rw [h]; rfl
          clear h
          go_wp2_with fail
          go_meet
          exact B0
        · have k0 : (V == 101) = false := by rw [h]; rfl
          have k1 : (V == 69) = false := by rw [h]; rfl
          have k2 : (V == 102) = false := by rw [h]; rfl
          have k3 : (V == 70) = false := by rw [h]; rfl
          have k4 : (V == 103) = false := by rw [h]; rfl
          have k5 : (V == 71) = true := by rw [h]; rfl
          clear h
          go_wp2_with fail
          go_meet
          exact B0
      case rest =>
      have B1 := hcut
      clear B0 c0 c1 c2 c3 VC
      obtain ⟨c0, c1, c2, c3⟩ := B1.out.flat
      go_wp2_with fail
      with_reducible refine (SP.out _).mono ?_
      rintro e w2 ⟨rfl, b2⟩
      have B2 := hid (B1.out.on b2)
      clear b2 B1 SP c0 c1 c2 c3
      obtain ⟨c0, c1, c2, c3⟩ := B2.out.flat
      go_wp2_with fail
      go_ret2
      exact G.out _ B2.out.bel
  · have hV' : Po.okV V = false := by simpa using hV
    have hn := of_decide_eq_false hV'
    have hR : Po.renE V F W P = 140 := by rw [Po.renE, if_neg hV]
    have G : Hid (∀ w', Below w.heap.size w w' → RenTold V F W P d w (.returned (.tuple #[.string ⟨#[]⟩, .int .i64 140])) w') := fun w' k => ⟨by rw [Po.ren, hR, if_neg (by decide)]; rfl, k⟩
    have k0 : (V == 101) = false := by rw [beq_eq_false_iff_ne]; omega
    have k1 : (V == 69) = false := by rw [beq_eq_false_iff_ne]; omega
    have k2 : (V == 102) = false := by rw [beq_eq_false_iff_ne]; omega
    have k3 : (V == 70) = false := by rw [beq_eq_false_iff_ne]; omega
    have k4 : (V == 103) = false := by rw [beq_eq_false_iff_ne]; omega
    have k5 : (V == 71) = false := by rw [beq_eq_false_iff_ne]; omega
    clear hV hV' hn hR SP TB hT
    go_enter Tryz.func28, Tryz.ntmps28
    go_wp2_with fail
    go_ret2
    exact G.out _ B0.out.bel
end Go.Proofs.YtaoaniigbooihaaGreatDoor

namespace Go.Proofs.YtaoaniigbooihaaGreatDoor
open Go.RowKit Go.Deep Go.ChangeShapes Go.WideShapes Go.ChangeAt

theorem spc_array {α : Type} {cs : Array α} (h : cs.size = 4) : ∃ c0 c1 c2 c3, cs = #[c0, c1, c2, c3] := by
  obtain ⟨l⟩ := cs
  match l, h with
  | [c0, c1, c2, c3], _ => exact ⟨c0, c1, c2, c3, rfl⟩
theorem spc_list {α : Type} {l : List α} (h : l.length = 4) : ∃ c0 c1 c2 c3, l = [c0, c1, c2, c3] := by
  match l, h with
  | [c0, c1, c2, c3], _ => exact ⟨c0, c1, c2, c3, rfl⟩

set_option maxRecDepth 100000 in
theorem open_spc_cells {H : Type} {enc : TypeId × Value → H} {W : World} {fuel : Nat} {a0 a1 a2 a3 : Value} {x : DataW H × List MemPlace} (hf : DataW.trod enc Tryz.prog W 0 (fun _ => true) true fuel 25 [a0, a1, a2, a3] = some x) :
    ∃ V F D P : Int, a0 = .int .u8 V ∧ a1 = .int .i64 F ∧ a2 = .int .i64 D ∧ a3 = .int .i64 P ∧ (0 ≤ V ∧ V < 256) := by
  obtain ⟨xs, n, _, hx, _, hlen, hfs⟩ := DataW.trod_struct Tryz.underlying25 hf
  obtain ⟨y0, y1, y2, y3, rfl⟩ := spc_list hlen
  have c3 : Tryz.prog.cellsOf 3 = 1 := by kernel_rfl
  have c8 : Tryz.prog.cellsOf 5 = 1 := by kernel_rfl
  have f0 : DataW.trod enc Tryz.prog W 0 (fun _ => true) true n 5 [a0] = some y0 := by simpa [c8] using hfs 0 _ rfl
  have f1 : DataW.trod enc Tryz.prog W 0 (fun _ => true) true n 3 [a1] = some y1 := by simpa [c3] using hfs 1 _ rfl
  have f2 : DataW.trod enc Tryz.prog W 0 (fun _ => true) true n 3 [a2] = some y2 := by simpa [c3] using hfs 2 _ rfl
  have f3 : DataW.trod enc Tryz.prog W 0 (fun _ => true) true n 3 [a3] = some y3 := by simpa [c3] using hfs 3 _ rfl
  obtain ⟨V, e0, _, w0⟩ := DataW.trod_int Tryz.underlying5 f0
  obtain ⟨F, e1, _, w1⟩ := DataW.trod_int Tryz.underlying3 f1
  obtain ⟨D, e2, _, w2⟩ := DataW.trod_int Tryz.underlying3 f2
  obtain ⟨P, e3, _, w3⟩ := DataW.trod_int Tryz.underlying3 f3
  have b0 := bounds_u8 w0
  exact ⟨V, F, D, P, (List.cons.inj e0).1, (List.cons.inj e1).1, (List.cons.inj e2).1, (List.cons.inj e3).1, by omega, by omega⟩

set_option maxRecDepth 100000 in
theorem open_spc {H : Type} {enc : TypeId × Value → H} {W : World} {base : Nat} {v : Value} {d : DataW H} {p : List MemPlace} (hv : Value.okWide Tryz.prog W .any base 25 v) (h : DataW.Trod enc Tryz.prog W 0 (fun _ => true) true 25 v d p) :
    ∃ V F D P : Int, v = .agg #[.int .u8 V, .int .i64 F, .int .i64 D, .int .i64 P] ∧ (0 ≤ V ∧ V < 256) := by
  obtain ⟨cs, rfl, hs3⟩ := okWide_struct Tryz.underlying25 hv
  obtain ⟨a0, a1, a2, a3, rfl⟩ := spc_array (hs3.trans (show Tryz.prog.cellsOf 25 = 4 by kernel_rfl))
  obtain ⟨fuel, hf⟩ := h
  have hf' : DataW.trod enc Tryz.prog W 0 (fun _ => true) true fuel 25 [a0, a1, a2, a3] = some (d, p) := by simpa [Value.cells] using hf
  obtain ⟨V, F, D, P, e0, e1, e2, e3, h1⟩ := open_spc_cells (x := (d, p)) hf'
  rw [e0, e1, e2, e3]
  exact ⟨V, F, D, P, rfl, h1⟩
end Go.Proofs.YtaoaniigbooihaaGreatDoor

namespace Go.Proofs.YtaoaniigbooihaaGreatDoor
open Go.RowKit Go.Deep Go.ChangeShapes Go.WideShapes Go.ChangeAt

theorem all_mem15 {H : Type} {P : Program} {e : TypeId} : ∀ {l : List (DataW H)} {d : DataW H}, d ∈ l → ∀ n ∈ d.weights P e, n ∈ DataW.weightsAll P e l
  | [], _, h, _, _ => by simp at h
  | x :: r, d, h, n, hn => by
    simp only [DataW.weightsAll, List.mem_append]
    rcases List.mem_cons.1 h with rfl | h
    · exact .inl hn
    · exact .inr (all_mem15 h n hn)

/-- What can be told of each place can be told of a list. -/
theorem list_of_each15 {α : Type} {Q : Nat → α → Prop} : ∀ n, (∀ i, i < n → ∃ x, Q i x) → ∃ l : List α, l.length = n ∧ ∀ i x, l[i]? = some x → Q i x
  | 0, _ => ⟨[], rfl, by simp⟩
  | n + 1, h => by
    obtain ⟨l, h1, h2⟩ := list_of_each15 n (fun i hi => h i (by omega))
    obtain ⟨x, hx⟩ := h n (by omega)
    refine ⟨l ++ [x], by simp [h1], fun i y hy => ?_⟩
    by_cases hi : i < l.length
    · rw [List.getElem?_append_left hi] at hy
      exact h2 i y hy
    · have hlt := (List.getElem?_eq_some_iff.1 hy).1
      simp only [List.length_append, List.length_cons, List.length_nil] at hlt
      obtain rfl : i = n := by omega
      rw [List.getElem?_append_right (by omega), h1, Nat.sub_self] at hy
      simp at hy
      subst hy
      exact hx

/-- A call that was read. -/
structure O15 where
  K : Int
  V : Int
  F : Int
  W : Int
  P : Int
  d : Int

def O15.Cells (w : World) (b o : Nat) (it : O15) : Prop :=
  w.cell? ⟨b, o, none⟩ = some (.int .i64 it.K) ∧ w.cell? ⟨b, o + 1, none⟩ = some (.int .u8 it.V) ∧ w.cell? ⟨b, o + 2, none⟩ = some (.int .i64 it.F) ∧ w.cell? ⟨b, o + 3, none⟩ = some (.int .i64 it.W) ∧ w.cell? ⟨b, o + 4, none⟩ = some (.int .i64 it.P) ∧ w.cell? ⟨b, o + 5, none⟩ = some (.int .u64 it.d)
def O15.Bd (it : O15) : Prop := (0 ≤ it.V ∧ it.V < 256) ∧ (0 ≤ it.d ∧ it.d < 18446744073709551616)
def O15.Holds (w : World) (a : Option Addr) (its : List O15) : Prop := its = [] ∨ ∃ b off, a = some ⟨b, off, none⟩ ∧ ∀ i it, its[i]? = some it → O15.Cells w b (off + i * 6) it

theorem list3o {α : Type} {l : List α} (h : l.length = 3) : ∃ c0 c1 c2, l = [c0, c1, c2] := by
  match l, h with
  | [c0, c1, c2], _ => exact ⟨c0, c1, c2, rfl⟩
theorem list6o {α : Type} {l : List α} (h : l.length = 6) : ∃ c0 c1 c2 c3 c4 c5, l = [c0, c1, c2, c3, c4, c5] := by
  match l, h with
  | [c0, c1, c2, c3, c4, c5], _ => exact ⟨c0, c1, c2, c3, c4, c5, rfl⟩

theorem open_op15 {H : Type} {enc : TypeId × Value → H} {W : World} {fuel : Nat} {a0 a1 a2 a3 a4 a5 : Value} {y : DataW H × List MemPlace} (hf : DataW.trod enc Tryz.prog W 0 (fun _ => true) true fuel 28 [a0, a1, a2, a3, a4, a5] = some y) :
    ∃ it : O15, a0 = .int .i64 it.K ∧ a1 = .int .u8 it.V ∧ a2 = .int .i64 it.F ∧ a3 = .int .i64 it.W ∧ a4 = .int .i64 it.P ∧ a5 = .int .u64 it.d ∧ it.Bd := by
  obtain ⟨xs, n, _, hx, _, hlen, hfs⟩ := DataW.trod_struct Tryz.underlying28 hf
  obtain ⟨y0, y1, y2, rfl⟩ := list3o hlen
  have ci : Tryz.prog.cellsOf 3 = 1 := by kernel_rfl
  have cu : Tryz.prog.cellsOf 26 = 1 := by kernel_rfl
  have cd : Tryz.prog.cellsOf 25 = 4 := by kernel_rfl
  have f0 : DataW.trod enc Tryz.prog W 0 (fun _ => true) true n 3 [a0] = some y0 := by simpa [ci, cu, cd] using hfs 0 _ rfl
  have f1 : DataW.trod enc Tryz.prog W 0 (fun _ => true) true n 25 [a1, a2, a3, a4] = some y1 := by simpa [ci, cu, cd] using hfs 1 _ rfl
  have f2 : DataW.trod enc Tryz.prog W 0 (fun _ => true) true n 26 [a5] = some y2 := by simpa [ci, cu, cd] using hfs 2 _ rfl
  obtain ⟨K, e0, _, w0⟩ := DataW.trod_int Tryz.underlying3 f0
  obtain ⟨d, e5, _, w5⟩ := DataW.trod_int Tryz.underlying26 f2
  obtain ⟨V, F, WW, P, e1, e2, e3, e4, hb⟩ := open_spc_cells f1
  have b5 := bounds_u64 w5
  exact ⟨⟨K, V, F, WW, P, d⟩, (List.cons.inj e0).1, e1, e2, e3, e4, (List.cons.inj e5).1, by simp only [O15.Bd]; omega⟩

set_option maxRecDepth 100000 in
theorem open_ops15 {H : Type} {enc : TypeId × Value → H} {W : World} {a : Option Addr} {len cap : Nat} {d : DataW H} {p : List MemPlace} (h : DataW.Trod enc Tryz.prog W 0 (fun _ => true) true 22 (.slice a len cap) d p)
    (hsz : ∀ n ∈ d.weights Tryz.prog 22, n ≤ reachBytes) : ∃ its : List O15, its.length = len ∧ len ≤ cap ∧ cap ≤ 17592186044416 ∧ O15.Holds W a its ∧ ∀ it ∈ its, O15.Bd it := by
  obtain ⟨fuel, hf⟩ := h
  rcases DataW.trod_slice Tryz.underlying22 hf with ⟨hcs, _⟩ | ⟨x, l, c, elems, rest, n, _, hcs, hx, _, hl, hm, he, hel, hsp, _⟩
  · simp [Value.cells] at hcs
    obtain ⟨rfl, rfl, rfl⟩ := hcs
    exact ⟨[], rfl, Nat.le_refl _, by omega, .inl rfl, by intro it h; simp at h⟩
  · simp [Value.cells] at hcs
    obtain ⟨rfl, rfl, rfl⟩ := hcs
    have hd : d = .slice (elems.map (·.1)) (rest.map (·.1)) := (Prod.mk.inj hx).1
    have hw : ∀ n ∈ (DataW.slice (elems.map (·.1)) (rest.map (·.1)) : DataW H).weights Tryz.prog 22, n ≤ reachBytes := by rw [← hd]; exact hsz
    simp only [DataW.weights, Tryz.underlying22] at hw
    have hr := hw _ List.mem_cons_self
    rw [show Tryz.prog.bytesOf 28 = 48 by kernel_rfl] at hr
    have hrl := (hsp rfl).1
    simp only [List.length_map, reachBytes] at hr
    have hcap : cap ≤ 17592186044416 := by omega
    rw [show Tryz.prog.cellsOf 28 = 6 by kernel_rfl] at hel
    obtain ⟨its, i1, i2⟩ := list_of_each15 (Q := fun i (it : O15) => (W.cell? (x.add (i * 6)) = some (.int .i64 it.K) ∧ W.cell? ((x.add (i * 6)).add 1) = some (.int .u8 it.V) ∧ W.cell? ((x.add (i * 6)).add 2) = some (.int .i64 it.F) ∧ W.cell? ((x.add (i * 6)).add 3) = some (.int .i64 it.W) ∧ W.cell? ((x.add (i * 6)).add 4) = some (.int .i64 it.P) ∧ W.cell? ((x.add (i * 6)).add 5) = some (.int .u64 it.d)) ∧ it.Bd) len (fun i hi => by
      have h1 := hel i hi
      have h2 : elems[i]? = some elems[i] := List.getElem?_eq_getElem (by omega)
      rw [h2] at h1
      obtain ⟨cs, h3, h4⟩ := Option.bind_eq_some_iff.1 h1
      obtain ⟨_, h5, h6⟩ := World.cells?_some h3
      obtain ⟨v0, v1, v2, v3, v4, v5, rfl⟩ := list6o h5
      have e0 := h6 0 (by omega)
      have e1 := h6 1 (by omega)
      have e2 := h6 2 (by omega)
      have e3 := h6 3 (by omega)
      have e4 := h6 4 (by omega)
      have e5 := h6 5 (by omega)
      have h8 : (x.add (i * 6)).add 0 = x.add (i * 6) := by simp [Addr.add]
      rw [h8] at e0
      obtain ⟨it, q0, q1, q2, q3, q4, q5, hA⟩ := open_op15 h4
      subst q0 q1 q2 q3 q4 q5
      exact ⟨it, ⟨e0, e1, e2, e3, e4, e5⟩, hA⟩)
    refine ⟨its, i1, hl, hcap, ?_, ?_⟩
    · rcases Nat.eq_zero_or_pos its.length with h0 | h0
      · exact .inl (List.eq_nil_of_length_eq_zero h0)
      · obtain ⟨b, off, spot⟩ := x
        have hspot : spot = none := by simpa [Addr.add] using World.cell?_spot (i2 0 _ (List.getElem?_eq_getElem h0)).1.1
        subst hspot
        refine .inr ⟨b, off, rfl, fun i it hi => ?_⟩
        obtain ⟨⟨q0, q1, q2, q3, q4, q5⟩, _⟩ := i2 i it hi
        rw [Go.WideShapes.add_plain] at q0 q1 q2 q3 q4 q5
        rw [Go.WideShapes.add_plain] at q1 q2 q3 q4 q5
        exact ⟨q0, q1, q2, q3, q4, q5⟩
    · intro it hit
      obtain ⟨i, hi⟩ := List.getElem?_of_mem hit
      exact (i2 i it hi).2
end Go.Proofs.YtaoaniigbooihaaGreatDoor

namespace Go.Proofs.YtaoaniigbooihaaGreatDoor
open Go Go.RowKit Go.Deep Go.Shelf
namespace Fx
theorem c15 : X 4609434218613702656 = [49, 53] ∧ P 4609434218613702656 = -1 := by
  obtain ⟨s, D⟩ := dig_c (T := 3 * 5 ^ 1) (xs := [49, 53]) (fun d h => by simp at h; omega) (by decide) (by decide) (by decide) (by decide)
  have m : Ie.dm 4609434218613702656 = 6755399441055744 := by decide
  have e : Ie.de 4609434218613702656 = -52 := by decide
  refine X_of (by rw [m]; omega) ?_
  rw [m, e]
  exact ex_odd (t := 51) (q := 3) (n := 1) (by decide) (by omega) (by decide) (by omega) (by decide) D
theorem c15n : X 13832806255468478464 = [49, 53] ∧ P 13832806255468478464 = -1 := by
  have m : Ie.dm 13832806255468478464 = Ie.dm 4609434218613702656 := by decide
  have e : Ie.de 13832806255468478464 = Ie.de 4609434218613702656 := by decide
  unfold X P
  rw [m, e]
  exact c15
theorem pl15 : pA 4609434218613702656 2 = [49] ∧ pB 4609434218613702656 2 = [53, 48] := by
  have r : rf 4609434218613702656 2 0 = 0 := by decide
  have w : W 4609434218613702656 2 = [49, 53, 48] := by
    unfold W
    rw [c15.1, c15.2]
    decide
  refine ⟨?_, ?_⟩
  · rw [pA, if_pos r, show (2 : Int).toNat = 2 from rfl, w]
    decide
  · rw [pB, if_pos r, show (2 : Int).toNat = 2 from rfl, w]
    decide
theorem pl15n : pA 13832806255468478464 2 = [49] ∧ pB 13832806255468478464 2 = [53, 48] := by
  have r : rf 13832806255468478464 2 0 = 0 := by decide
  have w : W 13832806255468478464 2 = [49, 53, 48] := by
    unfold W
    rw [c15n.1, c15n.2]
    decide
  refine ⟨?_, ?_⟩
  · rw [pA, if_pos r, show (2 : Int).toNat = 2 from rfl, w]
    decide
  · rw [pB, if_pos r, show (2 : Int).toNat = 2 from rfl, w]
    decide
end Fx
namespace Po
theorem ren15n : ren 102 18 8 2 13832806255468478464 = [45, 48, 48, 48, 49, 46, 53, 48] ∧ renE 102 18 8 2 = 0 := by
  have r : renE 102 18 8 2 = 0 := by decide
  refine ⟨?_, r⟩
  rw [ren, if_pos r, if_pos (by decide), bd, if_pos (by decide), show pr 2 = 2 from rfl, bdF, Fx.pl15n.1, Fx.pl15n.2]
  decide
theorem ren15 : ren 102 18 8 2 4609434218613702656 = [43, 48, 48, 48, 49, 46, 53, 48] := by
  have r : renE 102 18 8 2 = 0 := by decide
  rw [ren, if_pos r, if_pos (by decide), bd, if_pos (by decide), show pr 2 = 2 from rfl, bdF, Fx.pl15.1, Fx.pl15.2]
  decide
theorem spcinf : spc 69 0 6 (-1) 18442240474082181120 = [32, 32, 45, 73, 78, 70] ∧ spb 0 6 (-1) 18442240474082181120 = true ∧ Wh.chk 0 6 (-1) = 0 := by
  refine ⟨?_, ?_, ?_⟩ <;> decide
end Po

set_option maxRecDepth 100000 in
set_option maxHeartbeats 2000000 in
theorem pawake_any (w : World) (hT : Tab w) : Calls Tryz.prog 9 #[] w fun e w' => e = .returned (.bool true) ∧ Below w.heap.size w w' := by
  have TB : Hid (∀ wk, Below w.heap.size w wk → Tab wk) := fun wk k => hT.below k
  have A1 : Hid (∀ wk, Tab wk → Calls Tryz.prog 12 #[.agg #[.int .u8 102, .int .i64 18, .int .i64 8, .int .i64 2], .int .u64 13832806255468478464] wk fun e w' => e = .returned (.tuple #[.string ⟨#[45, 48, 48, 48, 49, 46, 53, 48]⟩, .int .i64 0]) ∧ Below wk.heap.size wk w') := by
    intro wk k
    refine (render_any 102 18 8 2 13832806255468478464 wk k (by omega) (by omega) (by omega) (by omega)).mono ?_
    rintro e w' ⟨rfl, b⟩
    rw [Po.ren15n.1, Po.ren15n.2]
    exact ⟨rfl, b⟩
  have A2 : Hid (∀ wk, Tab wk → Calls Tryz.prog 12 #[.agg #[.int .u8 102, .int .i64 18, .int .i64 8, .int .i64 2], .int .u64 4609434218613702656] wk fun e w' => e = .returned (.tuple #[.string ⟨#[43, 48, 48, 48, 49, 46, 53, 48]⟩, .int .i64 0]) ∧ Below wk.heap.size wk w') := by
    intro wk k
    refine (render_any 102 18 8 2 4609434218613702656 wk k (by omega) (by omega) (by omega) (by omega)).mono ?_
    rintro e w' ⟨rfl, b⟩
    rw [Po.ren15, Po.ren15n.2]
    exact ⟨rfl, b⟩
  have A3 : Hid (∀ wk, Calls Tryz.prog 27 #[.agg #[.int .u8 69, .int .i64 0, .int .i64 6, .int .i64 (-1)], .int .u64 18442240474082181120] wk fun e w' => e = .returned (.tuple #[.string ⟨#[32, 32, 45, 73, 78, 70]⟩, .bool true, .int .i64 0]) ∧ Below wk.heap.size wk w') := by
    intro wk
    refine (special_any 69 0 6 (-1) 18442240474082181120 wk (by omega) (by omega) (by omega) (by omega)).mono ?_
    rintro e w' ⟨rfl, b⟩
    rw [Po.spcinf.1, Po.spcinf.2.1, Po.spcinf.2.2]
    exact ⟨rfl, b⟩
  have T0 := hid hT
  clear hT
  go_enter Tryz.func9, Tryz.ntmps9
  go_wp2_with fail
  with_reducible refine (A1.out _ T0.out).mono ?_
  rintro e w1 ⟨rfl, b1⟩
  have B1 := hid b1
  have T1 := hid (TB.out _ B1.out)
  clear b1
  go_wp2_with fail
  with_reducible refine (A2.out _ T1.out).mono ?_
  rintro e w2 ⟨rfl, b2⟩
  have B2 := hid (below_on B1.out b2)
  clear b2
  go_wp2_with fail
  with_reducible refine (A3.out _).mono ?_
  rintro e w3 ⟨rfl, b3⟩
  have B3 := hid (below_on B2.out b3)
  clear b3
  go_wp2_with fail
  go_ret
  exact ⟨rfl, B3.out⟩

set_option maxRecDepth 100000 in
theorem plfin_any (d : Int) (w : World) (h0 : 0 ≤ d) (_h1 : d < 18446744073709551616) :
    Calls Tryz.prog 14 #[.int .u64 d] w fun e w' => e = .returned (.bool (Ie.fnt d)) ∧ w' = w := by
  have E := hid (fnt_abs d)
  go_enter Tryz.func14, Tryz.ntmps14
  go_wp2_with fail
  go_ret
  exact ⟨fretB E.out, rfl⟩

set_option maxRecDepth 100000 in
set_option maxHeartbeats 2000000 in
theorem pwrong_any (V F W P : Int) (w : World) :
    Calls Tryz.prog 15 #[.agg #[.int .u8 V, .int .i64 F, .int .i64 W, .int .i64 P]] w fun e w' => e = .returned (.int .i64 (Po.renE V F W P)) ∧ Below w.heap.size w w' := by
  have B := hid (alloc_b w (.cells #[.int .u8 V, .int .i64 F, .int .i64 W, .int .i64 P] 25))
  have RE : Hid (Po.renE V F W P = if Po.okV V = true then Wh.chk F W P else 140) := rfl
  by_cases hV : V = 101 ∨ V = 69 ∨ V = 102 ∨ V = 70 ∨ V = 103 ∨ V = 71
  · have e0 : Po.renE V F W P = Wh.chk F W P := by rw [RE.out, if_pos (show Po.okV V = true from decide_eq_true hV)]
    rw [e0]
    clear e0 RE
    have key : ∃ E, Wh.chk F W P = E ∧ ((E = 1 ∧ F < 0) ∨ (E = 1 ∧ ¬ F < 0 ∧ 31 < F) ∨ (E = 1 ∧ ¬ F < 0 ∧ ¬ 31 < F ∧ W < 0) ∨ (E = 1 ∧ ¬ F < 0 ∧ ¬ 31 < F ∧ ¬ W < 0 ∧ P < -1) ∨ (E = 6 ∧ ¬ F < 0 ∧ ¬ 31 < F ∧ ¬ W < 0 ∧ ¬ P < -1 ∧ 4096 < W) ∨ (E = 6 ∧ ¬ F < 0 ∧ ¬ 31 < F ∧ ¬ W < 0 ∧ ¬ P < -1 ∧ ¬ 4096 < W ∧ 4096 < P) ∨ (E = 0 ∧ ¬ F < 0 ∧ ¬ 31 < F ∧ ¬ W < 0 ∧ ¬ P < -1 ∧ ¬ 4096 < W ∧ ¬ 4096 < P)) := by
      refine ⟨_, rfl, ?_⟩
      unfold Wh.chk
      split
      · omega
      · split <;> omega
    obtain ⟨E, hE, k⟩ := key
    rw [hE]
    clear hE
    rcases hV with rfl | rfl | rfl | rfl | rfl | rfl <;>
    rcases k with ⟨rfl, a1⟩ | ⟨rfl, a1, a2⟩ | ⟨rfl, a1, a2, a3⟩ | ⟨rfl, a1, a2, a3, a4⟩ | ⟨rfl, a1, a2, a3, a4, a5⟩ | ⟨rfl, a1, a2, a3, a4, a5, a6⟩ | ⟨rfl, a1, a2, a3, a4, a5, a6⟩ <;>
    (go_enter Tryz.func15, Tryz.ntmps15
     go_wp2_with fail
     go_ret
     exact ⟨rfl, B.out⟩)
  · have e0 : Po.renE V F W P = 140 := by rw [RE.out, if_neg (by simpa [Po.okV] using hV)]
    rw [e0]
    clear e0 RE
    have n1 : (V == 101) = false := by simp; omega
    have n2 : (V == 69) = false := by simp; omega
    have n3 : (V == 102) = false := by simp; omega
    have n4 : (V == 70) = false := by simp; omega
    have n5 : (V == 103) = false := by simp; omega
    have n6 : (V == 71) = false := by simp; omega
    clear hV
    go_enter Tryz.func15, Tryz.ntmps15
    go_wp2_with fail
    go_ret
    exact ⟨rfl, B.out⟩
end Go.Proofs.YtaoaniigbooihaaGreatDoor
