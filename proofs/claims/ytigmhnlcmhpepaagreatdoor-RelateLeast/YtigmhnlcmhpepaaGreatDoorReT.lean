/-
  relate.Sort, walked.
-/
import Derived.Test.YtigmhnlcmhpepaaGreatDoorGI
import Derived.Deep.LoopGhost
namespace Go.Proofs.YtigmhnlcmhpepaaGreatDoor
open Go Go.RowKit Go.Deep Go.Shelf

namespace Re
theorem infoT : (Tryz.prog.info? 66).map (fun i => (i.zero, i.size, i.bytes)) = some (some (.agg #[.bool false, .int .i64 0, .string ⟨#[]⟩, .int .i64 0]), 4, 40) := by kernel_rfl
theorem infoI : (Tryz.prog.info? 3).map (fun i => (i.zero, i.size, i.bytes)) = some (some (.int .i64 0), 1, 8) := by kernel_rfl
theorem make_t (n : Nat) (hn : n ≤ 4398046511104) (W : World) : (Instr.makeSlice 82 (.int .i64 (n : Int)) (.int .i64 (n : Int))).run Tryz.prog W = .ok (.slice (some ⟨W.heap.size, 0, none⟩) n n) (W.alloc (.cells (fl et (List.replicate n zt)).toArray 66)) := by
  obtain ⟨i, hi, hz⟩ := Option.map_eq_some_iff.1 infoT
  simp only [Prod.mk.injEq] at hz
  obtain ⟨z1, z2, z3⟩ := hz
  have := run_make (P := Tryz.prog) W 82 66 i _ Tryz.underlying82 hi z1 .i64 .i64 (n : Int) (n : Int) (by omega) (by omega) (by rw [z3]; omega) (by omega)
  rw [this, z2, Int.toNat_natCast]
  have e := made_fl et_len zt (by omega) n
  rw [← e]
  rfl
theorem make_i (n : Nat) (hn : n ≤ 4398046511104) (W : World) : (Instr.makeSlice 50 (.int .i64 (n : Int)) (.int .i64 (n : Int))).run Tryz.prog W = .ok (.slice (some ⟨W.heap.size, 0, none⟩) n n) (W.alloc (.cells (fl ei (List.replicate n 0)).toArray 3)) := by
  obtain ⟨i, hi, hz⟩ := Option.map_eq_some_iff.1 infoI
  simp only [Prod.mk.injEq] at hz
  obtain ⟨z1, z2, z3⟩ := hz
  have := run_make (P := Tryz.prog) W 50 3 i _ Tryz.underlying50 hi z1 .i64 .i64 (n : Int) (n : Int) (by omega) (by omega) (by rw [z3]; omega) (by omega)
  rw [this, z2, Int.toNat_natCast]
  have e := made_fl ei_len (0 : Int) (by omega) n
  rw [← e]
  rfl
end Re

set_option maxRecDepth 100000 in
set_option maxHeartbeats 8000000 in
theorem sort_any (p : Option Addr) (cap : Nat) (A : List Re.Vl) (w : World) (hv : Re.LV w p A) (hw : ∀ a ∈ A, 0 ≤ a.n ∧ a.n < 18446744073709551616) (hl : A.length ≤ 4398046511104) :
    Calls Tryz.prog 19 #[.slice p A.length cap] w fun e w' => ∃ g P, e = .returned (.slice (some ⟨g, 0, none⟩) A.length A.length) ∧ (w.heap.size ≤ g ∧ Bx w' g 3 (Re.fl Re.ei P).toArray ∧ Re.Sorts A P ∧ P.length = A.length ∧ Below w.heap.size w w') := by
  obtain ⟨n, hn⟩ : ∃ n, A.length = n := ⟨_, rfl⟩
  have HN := hid hn
  have HV := hid hv
  have HW := hid hw
  rw [hn]
  rw [hn] at hl
  have HL := hid hl
  have TL : Hid ((Re.tks A).length = n) := by rw [Hid, Re.tks_len, hn]
  have M1 := Re.make_t n hl
  have M2 := Re.make_i n hl
  have ln : (n : Int) ≤ 4398046511104 := by omega
  have b1 := alloc_b w (.cells (Re.fl Re.et (List.replicate n Re.zt)).toArray 66)
  have x1 := Bx.new w 66 (Re.fl Re.et (List.replicate n Re.zt)).toArray
  have I0 : Hid (Bx (w.alloc (.cells (Re.fl Re.et (List.replicate n Re.zt)).toArray 66)) w.heap.size 66 (Re.fl Re.et (Re.fil (Re.tks A) Re.zt 0)).toArray ∧ Below w.heap.size w (w.alloc (.cells (Re.fl Re.et (List.replicate n Re.zt)).toArray 66))) := ⟨by rw [Re.fil_zero, TL.out]; exact x1, b1⟩
  clear hv hw hl hn b1 x1
  go_enter Tryz.func19, Tryz.ntmps19
  go_wp2_with fail
  generalize w.alloc (.cells (Re.fl Re.et (List.replicate n Re.zt)).toArray 66) = wa at *
  go_loopg [14] n (fun m iv wr => ∃ i : Nat, i + m = n ∧ iv = .int .i64 (i : Int) ∧ Hid (Bx wr w.heap.size 66 (Re.fl Re.et (Re.fil (Re.tks A) Re.zt i)).toArray ∧ Below w.heap.size w wr))
  case atStart => exact ⟨0, by omega, rfl, I0.out⟩
  case round =>
    obtain ⟨i, hi, rfl, I⟩ := hrel
    by_cases hlt : i < n
    · have hli : (i : Int) < (n : Int) := by omega
      obtain ⟨a, ha⟩ : ∃ a, A[i]? = some a := ⟨_, List.getElem?_eq_getElem (by have := HN.out; omega)⟩
      obtain ⟨b, off, rfl, c0, c1, c2⟩ := (HV.out.on I.out.2).at ha
      have am := HW.out a (List.mem_of_getElem? ha)
      have RK := hid (fun W => rankof_any a.k a.n a.s W am.1 am.2)
      obtain ⟨t, q, u, er⟩ := Re.er_ex (Re.rt a.k a.n a.s)
      rw [er] at RK
      have ta := Re.tks_at ha
      have ex : Re.et ⟨Re.rt a.k a.n a.s, (i : Int)⟩ = [.bool t, .int .i64 q, .string u, .int .i64 (i : Int)] := by rw [Re.et, er]; rfl
      have NX : Hid (∀ W : World, Bx W w.heap.size 66 (Re.fl Re.et (Re.fil (Re.tks A) Re.zt i)).toArray ∧ Below w.heap.size w W → Bx ((((W.setCell ⟨w.heap.size, i * 4, none⟩ (.bool t)).setCell ⟨w.heap.size, i * 4 + 1, none⟩ (.int .i64 q)).setCell ⟨w.heap.size, i * 4 + 2, none⟩ (.string u)).setCell ⟨w.heap.size, i * 4 + 3, none⟩ (.int .i64 (i : Int))) w.heap.size 66 (Re.fl Re.et (Re.fil (Re.tks A) Re.zt (i + 1))).toArray ∧ Below w.heap.size w ((((W.setCell ⟨w.heap.size, i * 4, none⟩ (.bool t)).setCell ⟨w.heap.size, i * 4 + 1, none⟩ (.int .i64 q)).setCell ⟨w.heap.size, i * 4 + 2, none⟩ (.string u)).setCell ⟨w.heap.size, i * 4 + 3, none⟩ (.int .i64 (i : Int)))) := fun W z => by
        refine ⟨?_, (((z.2.setCell (p := ⟨w.heap.size, i * 4, none⟩) (Nat.le_refl _) _).setCell (p := ⟨w.heap.size, i * 4 + 1, none⟩) (Nat.le_refl _) _).setCell (p := ⟨w.heap.size, i * 4 + 2, none⟩) (Nat.le_refl _) _).setCell (p := ⟨w.heap.size, i * 4 + 3, none⟩) (Nat.le_refl _) _⟩
        have := Re.bx_put Re.et_len (i := i) z.1 ⟨Re.rt a.k a.n a.s, (i : Int)⟩ (by rw [Re.fil_len _ _ (by have := TL.out; omega)]; have := TL.out; omega)
        rw [ex, Re.fil_set _ _ ta] at this
        exact this
      have OLD : Hid (∀ W : World, Bx W w.heap.size 66 (Re.fl Re.et (Re.fil (Re.tks A) Re.zt i)).toArray → W.cell? ⟨w.heap.size, i * 4, none⟩ = some (.bool false) ∧ W.cell? ⟨w.heap.size, i * 4 + 1, none⟩ = some (.int .i64 0) ∧ W.cell? ⟨w.heap.size, i * 4 + 2, none⟩ = some (.string ⟨#[]⟩) ∧ W.cell? ⟨w.heap.size, i * 4 + 3, none⟩ = some (.int .i64 0)) := fun W z => by
        have hz := Re.fil_at (Re.tks A) Re.zt (i := i) (by have := TL.out; omega)
        exact ⟨Re.bx_cell Re.et_len z hz 0 (by omega) _ rfl, Re.bx_cell Re.et_len z hz 1 (by omega) _ rfl, Re.bx_cell Re.et_len z hz 2 (by omega) _ rfl, Re.bx_cell Re.et_len z hz 3 (by omega) _ rfl⟩
      clear ex ta er am ha I0
      have bb := alloc_b wr (.cells #[.int .i64 a.k, .int .u64 a.n, .string a.s] 24)
      have J : Hid (Bx (wr.alloc (.cells #[.int .i64 a.k, .int .u64 a.n, .string a.s] 24)) w.heap.size 66 (Re.fl Re.et (Re.fil (Re.tks A) Re.zt i)).toArray ∧ Below w.heap.size w (wr.alloc (.cells #[.int .i64 a.k, .int .u64 a.n, .string a.s] 24))) := ⟨I.out.1.on bb, below_on I.out.2 bb⟩
      clear bb
      go_wp2_with fail
      refine (RK.out _).mono ?_
      rintro e w5 ⟨rfl, b5⟩
      have J5 := hid (And.intro (J.out.1.on b5) (below_on J.out.2 b5))
      clear b5 J RK c0 c1 c2
      obtain ⟨d0, d1, d2, d3⟩ := OLD.out _ J5.out.1
      have f0 := J5.out.1.free (i * 4)
      have f1 := J5.out.1.free (i * 4 + 1)
      have f2 := J5.out.1.free (i * 4 + 2)
      have f3 := J5.out.1.free (i * 4 + 3)
      have N5 := hid (NX.out _ J5.out)
      clear OLD NX J5
      go_wp2_with fail
      go_roundg (n - (i + 1))
      case measure => omega
      case rel => exact ⟨i + 1, by omega, by go_num, N5.out⟩
    · have hli : ¬ (i : Int) < (n : Int) := by omega
      have ein : i = n := by omega
      subst ein
      have J := hid (And.intro (show Bx wr w.heap.size 66 (Re.fl Re.et (Re.tks A)).toArray by have := I.out.1; rw [show i = (Re.tks A).length from TL.out.symm, Re.fil_all] at this; exact this) I.out.2)
      clear I I0
      have SC := hid (fun W (z : Bx W w.heap.size 66 (Re.fl Re.et (Re.tks A)).toArray) => sort_call w.heap.size (Re.tks A).toArray W z (by rw [List.size_toArray]; have := TL.out; have := HL.out; omega))
      rw [show (Re.tks A).toArray.size = i by rw [List.size_toArray]; exact TL.out] at SC
      go_wp2_with fail
      refine (SC.out _ J.out.1).mono ?_
      rintro e w3 ⟨rfl, d', hd, pm, so, k3, rg⟩
      have B3 : Below w.heap.size w w3 := J.out.2.trans (k3.below J.out.2.size (fun b e => by rw [e]; exact Nat.le_refl _))
      obtain ⟨P, hP⟩ : ∃ P, d'.toList.map (·.i) = P := ⟨_, rfl⟩
      have SO : Hid (Re.Sorts A P ∧ P.length = i) := by
        refine ⟨⟨d'.toList, pm, ?_, hP.symm⟩, by rw [← hP, List.length_map, Array.length_toList, hd]⟩
        rw [List.pairwise_iff_getElem]
        intro a b ha hb hab
        rw [Array.length_toList] at ha hb
        have := so a b hab (by omega)
        rw [getElem!_pos d' a ha, getElem!_pos d' b hb] at this
        simpa using this
      have PA : Hid (∀ j, j < i → P[j]? = some d'[j]!.i) := fun j hj => by
        rw [← hP, List.getElem?_map, Array.getElem?_toList, Array.getElem?_eq_getElem (by omega), getElem!_pos d' j (by omega)]
        rfl
      have b4 := alloc_b w3 (.cells (Re.fl Re.ei (List.replicate i 0)).toArray 3)
      have I2 : Hid (Bx (w3.alloc (.cells (Re.fl Re.ei (List.replicate i 0)).toArray 3)) w3.heap.size 3 (Re.fl Re.ei (Re.fil P 0 0)).toArray ∧ Below w.heap.size w (w3.alloc (.cells (Re.fl Re.ei (List.replicate i 0)).toArray 3)) ∧ ∀ j, j < i → (w3.alloc (.cells (Re.fl Re.ei (List.replicate i 0)).toArray 3)).rangeAt w.heap.size (j * 4) (Re.et d'[j]!)) := by
        refine ⟨?_, below_on B3 b4, fun j hj c v hv => ?_⟩
        · rw [Re.fil_zero, SO.out.2]; exact Bx.new _ _ _
        · have := rg j hj c v hv
          rw [b4.cell (cell_lt this)]; exact this
      have G2 : Hid (w.heap.size < w3.heap.size) := by
        have h1 := J.out.1.lt
        exact Nat.lt_of_lt_of_le h1 k3.size
      clear hd pm so k3 rg J SC b4 B3 hP M1
      go_wp2_with fail
      generalize w3.alloc (.cells (Re.fl Re.ei (List.replicate i 0)).toArray 3) = wb at *
      go_loopg [34] i (fun m iv wr => ∃ j : Nat, j + m = i ∧ iv = .int .i64 (j : Int) ∧ Hid (Bx wr w3.heap.size 3 (Re.fl Re.ei (Re.fil P 0 j)).toArray ∧ Below w.heap.size w wr ∧ ∀ j, j < i → wr.rangeAt w.heap.size (j * 4) (Re.et d'[j]!)))
      case atStart => exact ⟨0, by omega, rfl, I2.out⟩
      case round =>
        obtain ⟨j, hj, rfl, K⟩ := hrel
        by_cases jl : j < i
        · have jli : (j : Int) < (i : Int) := by omega
          obtain ⟨t, q, u, er⟩ := Re.er_ex d'[j]!.r
          have ex : Re.et d'[j]! = [.bool t, .int .i64 q, .string u, .int .i64 d'[j]!.i] := by rw [Re.et, er]; rfl
          have rr := K.out.2.2 j jl
          rw [ex] at rr
          have c0 := rr 0 _ rfl
          have c1 := rr 1 _ rfl
          have c2 := rr 2 _ rfl
          have c3 := rr 3 _ rfl
          rw [Nat.add_zero] at c0
          have pj := PA.out j jl
          generalize d'[j]!.i = N at *
          have bb := alloc_b wr (.cells #[.bool t, .int .i64 q, .string u, .int .i64 N] 66)
          have pz := Re.fil_at P 0 (i := j) (by have := SO.out.2; omega)
          have K1 : Bx (wr.alloc (.cells #[.bool t, .int .i64 q, .string u, .int .i64 N] 66)) w3.heap.size 3 (Re.fl Re.ei (Re.fil P 0 j)).toArray := K.out.1.on bb
          have z0 := Re.bx_cell Re.ei_len K.out.1 pz 0 (by omega) _ rfl
          rw [Nat.mul_one, Nat.add_zero] at z0
          have z1 := K.out.1.free j
          have NX : Hid (Bx ((wr.setCell ⟨w3.heap.size, j, none⟩ (.int .i64 N)).alloc (.cells #[.bool t, .int .i64 q, .string u, .int .i64 N] 66)) w3.heap.size 3 (Re.fl Re.ei (Re.fil P 0 (j + 1))).toArray ∧ Below w.heap.size w ((wr.setCell ⟨w3.heap.size, j, none⟩ (.int .i64 N)).alloc (.cells #[.bool t, .int .i64 q, .string u, .int .i64 N] 66)) ∧ ∀ j', j' < i → ((wr.setCell ⟨w3.heap.size, j, none⟩ (.int .i64 N)).alloc (.cells #[.bool t, .int .i64 q, .string u, .int .i64 N] 66)).rangeAt w.heap.size (j' * 4) (Re.et d'[j']!)) := by
            have m1 := Re.bx_put Re.ei_len (i := j) K.out.1 N (by rw [Re.fil_len _ _ (by have := SO.out.2; omega)]; have := SO.out.2; omega)
            rw [Re.fil_set _ _ pj, Nat.mul_one] at m1
            have m2 : Below w.heap.size w (wr.setCell ⟨w3.heap.size, j, none⟩ (.int .i64 N)) := K.out.2.1.setCell (p := ⟨w3.heap.size, j, none⟩) (Nat.le_of_lt G2.out) _
            have ba := alloc_b (wr.setCell ⟨w3.heap.size, j, none⟩ (.int .i64 N)) (.cells #[.bool t, .int .i64 q, .string u, .int .i64 N] 66)
            refine ⟨Bx.on m1 ba, below_on m2 ba, fun j' hj' c v hv => ?_⟩
            have h1 := K.out.2.2 j' hj' c v hv
            have h2 : (wr.setCell ⟨w3.heap.size, j, none⟩ (.int .i64 N)).cell? ⟨w.heap.size, j' * 4 + c, none⟩ = some v := by
              rw [World.cell?_setCell_far _ _ _ _ (fun e => by have := G2.out; simp only at e; omega)]; exact h1
            rw [ba.cell (cell_lt h2)]; exact h2
          have gl := K.out.1.lt
          clear er ex rr pj bb pz K1 I2
          go_wp2_with fail
          go_roundg (i - (j + 1))
          case measure => omega
          case rel => exact ⟨j + 1, by omega, by go_num, NX.out⟩
        · have jli : ¬ (j : Int) < (i : Int) := by omega
          have eji : j = i := by omega
          subst eji
          have F : Hid (Bx wr w3.heap.size 3 (Re.fl Re.ei P).toArray ∧ Below w.heap.size w wr) := ⟨by have := K.out.1; rw [show j = P.length from SO.out.2.symm, Re.fil_all] at this; exact this, K.out.2.1⟩
          clear K I2
          go_wp2_with fail
          go_ret
          first
            | exact ⟨_, rfl, P, Nat.le_of_lt G2.out, F.out.1, SO.out.1, SO.out.2, F.out.2⟩
            | exact ⟨_, rfl, Nat.le_of_lt G2.out, P, F.out.1, SO.out.1, SO.out.2, F.out.2⟩
end Go.Proofs.YtigmhnlcmhpepaaGreatDoor
