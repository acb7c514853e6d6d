/-
  Texts put together: ReKi, ReKa, ReKn.
-/
import Derived.Test.YtpmmbaahoegmlaaGreatDoorRG
import Derived.Deep.LoopGhost
import Derived.BigQuiet
import Derived.Test.YtpmmbaahoegmlaaGreatDoorRE
import Derived.Test.YtpmmbaahoegmlaaGreatDoorRF
namespace Go.Proofs.YtpmmbaahoegmlaaGreatDoor
open Go Go.RowKit Go.Deep Go.Shelf

theorem Re.G2.some {w0 : World} {n : Nat} {q : Nat → Option Addr} {ln cp : Nat → Nat} {bl bn be : Nat} {s : Int} {tt bf base R i : Nat} {gq : Option Addr} {gc L t : Nat} {W : World} (h : Re.G2 w0 n q ln cp bl bn be s tt bf base R i gq gc L t W) (h0 : 0 < L) : ∃ g, gq = .some ⟨g, 0, none⟩ := by
  obtain ⟨D, X, l, a1, a2, mm, x1, x2⟩ := h.gg
  rcases mm with ⟨_, _, e⟩ | ⟨g, e, _⟩
  · simp only [List.append_eq_nil_iff] at e
    rw [e.2, List.length_nil] at x1
    omega
  · exact ⟨g, e⟩
theorem Re.L1.less {w0 : World} {n : Nat} {q : Nat → Option Addr} {ln cp : Nat → Nat} {bl bn be m : Nat} {f f' : Nat → Nat} {W : World} (h : Re.L1 w0 n q ln cp bl bn be m f W) (hf : ∀ j, j < n → f' j ≤ f j) : Re.L1 w0 n q ln cp bl bn be m f' W :=
  ⟨h.row, fun i hi => by
    obtain ⟨D, l, a, r⟩ := h.li i hi
    exact ⟨D, l, a, fun k hk => r k (Nat.lt_of_lt_of_le hk (hf i hi))⟩, h.no, h.en, h.bw⟩

set_option maxRecDepth 100000 in
set_option maxHeartbeats 8000000 in
theorem apart_yes (bl n cl : Nat) (q : Nat → Option Addr) (ln cp : Nat → Nat) (w0 w : World) (row : ∀ i, i < n → w.cell? ⟨bl, i, none⟩ = some (.slice (q i) (ln i) (cp i)))
    (li : ∀ i, i < n → ∃ D, Re.Li 0 w (q i) (cp i) D ∧ D.length = ln i) (ap : Re.Ap n q) (ol : Re.Off n q bl) (lb : ∀ i, i < n → ∀ g, q i = some ⟨g, 0, none⟩ → w0.heap.size ≤ g) (hb : bl < w.heap.size) (bw : Below w0.heap.size w0 w) (hl : ∀ i, i < n → ln i ≤ 4398046511104) (hn : n ≤ 100) :
    Calls Tryz.prog 11 #[.slice (some ⟨bl, 0, none⟩) n cl] w fun e w' => e = .returned (.bool true) ∧ Below w0.heap.size w0 w' := by
  have M1 := Re.make_i n (by omega)
  have nn : (n : Int) ≤ 100 := by omega
  have HL := hid hl
  have LT : Hid (∀ i, i < n → ∀ g, q i = some ⟨g, 0, none⟩ → g < w.heap.size) := fun i hi g e => by
    obtain ⟨D, l, _⟩ := li i hi
    rcases l with ⟨z, _, _⟩ | ⟨g1, z, gr⟩
    · rw [z] at e; simp at e
    · rw [z] at e
      simp only [Option.some.injEq, Addr.mk.injEq, and_true] at e
      rw [← e]; exact gr.lt
  have y1 := alloc_b w (.cells (Re.fl Re.ei (List.replicate n 0)).toArray 3)
  have y2 := alloc_b (w.alloc (.cells (Re.fl Re.ei (List.replicate n 0)).toArray 3)) (.cells (Re.fl Re.ei (List.replicate n 0)).toArray 3)
  have l1 : (w.alloc (.cells (Re.fl Re.ei (List.replicate n 0)).toArray 3)).heap.size = w.heap.size + 1 := Array.size_push ..
  have I0 : Hid (Re.L1 w0 n q ln cp bl w.heap.size (w.heap.size + 1) 0 (fun _ => 0) ((w.alloc (.cells (Re.fl Re.ei (List.replicate n 0)).toArray 3)).alloc (.cells (Re.fl Re.ei (List.replicate n 0)).toArray 3))) := by
    have b2 := below_on y1 y2
    refine ⟨fun i hi => ?_, fun i hi => ?_, (Bx.new w _ _).on y2, ⟨_, by rw [← l1]; exact Bx.new _ _ _, List.length_replicate, fun j hj => absurd hj (Nat.not_lt_zero _)⟩, below_on bw b2⟩
    · rw [b2.cell (cell_lt (row i hi))]; exact row i hi
    · obtain ⟨D, l, e⟩ := li i hi
      exact ⟨D, l.on b2, e, fun k hk => absurd hk (Nat.not_lt_zero _)⟩
  have AP := hid ap
  have OL := hid ol
  have LB := hid lb
  have HB := hid (And.intro hb bw.size)
  clear row li ap ol lb hb bw hl y1 y2
  go_enter Tryz.func11, Tryz.ntmps11
  go_wp2_with fail
  have GE : Hid (w.heap.size < w.heap.size + 1) := Nat.lt_succ_self _
  generalize (w.alloc (.cells (Re.fl Re.ei (List.replicate n 0)).toArray 3)).alloc (.cells (Re.fl Re.ei (List.replicate n 0)).toArray 3) = wa at *
  clear l1
  generalize w.heap.size + 1 = ge at *
  generalize w.heap.size = gn at *
  have OE : Hid (Re.Off n q ge) := fun i hi e => by have := LT.out i hi ge e; have := GE.out; omega
  have ON : Hid (Re.Off n q gn) := fun i hi e => by have := LT.out i hi gn e; omega
  go_loopg [5] n (fun m iv wr => ∃ i : Nat, Hid (i + m = n) ∧ iv = .int .i64 (i : Int) ∧ Hid (Re.L1 w0 n q ln cp bl gn ge i (fun j => if j < i then ln j else 0) wr))
  case atStart => exact ⟨0, by rw [Hid]; omega, rfl, I0.out.less (fun j _ => by simp)⟩
  case round =>
    obtain ⟨i, hi, rfl, I⟩ := hrel
    by_cases h : i < n
    · have hlt : (i : Int) < (n : Int) := by omega
      have r0 := I.out.row i h
      obtain ⟨⟨v, ce⟩, fe, L2⟩ := I.out.fin h OE.out (by have := GE.out; have := HB.out; omega) (by have := GE.out; omega) (by have := GE.out; have := HB.out; omega)
      have L2 := hid L2
      clear I I0
      go_upto_region 7 with fail
      generalize wr.setCell ⟨ge, i, none⟩ (.int .i64 (ln i : Int)) = wb at *
      clear r0 ce fe
      have hL := HL.out i h
      have hLb : (ln i : Int) ≤ 4398046511104 := by omega
      have w1 : IntKind.i64.wrap ((i : Int) + 1) = (i : Int) + 1 := by rw [IntKind.wrap_i64]; omega
      have w2 : IntKind.i64.wrap (1000003 * ((i : Int) + 1)) = 1000003 * ((i : Int) + 1) := by rw [IntKind.wrap_i64]; omega
      go_wp2_with fail
      go_loopg [6] (ln i) (fun m kv wr => ∃ k : Nat, Hid (k + m = ln i) ∧ kv = .int .i64 (k : Int) ∧ Hid (Re.L1 w0 n q ln cp bl gn ge (i + 1) (fun j => if j < i then ln j else if j = i then k else 0) wr))
      case atStart => exact ⟨0, by rw [Hid]; omega, rfl, L2.out.less (fun j _ => by simp)⟩
      case round =>
        obtain ⟨k, hk, rfl, J⟩ := hrel
        have r0 := J.out.row i h
        by_cases hkl : k < ln i
        · have hki : (k : Int) < (ln i : Int) := by omega
          have w3 : IntKind.i64.wrap (1000003 * ((i : Int) + 1) + (k : Int)) = 1000003 * ((i : Int) + 1) + (k : Int) := by rw [IntKind.wrap_i64]; omega
          obtain ⟨g, v, qe, cg, fg, L3⟩ := J.out.mark h hkl (by simp) AP.out OL.out ON.out OE.out LB.out
          have L3 := hid L3
          rw [qe] at r0
          clear J L2 qe
          go_wp2_with fail
          go_roundg (ln i - (k + 1))
          case measure => have := hk.out; omega
          case rel => exact ⟨k + 1, by rw [Hid]; have := hk.out; omega, by go_num, L3.out.less (fun j _ => by
            show (if j < i then ln j else if j = i then k + 1 else 0) ≤ (if j = i then k + 1 else if j < i then ln j else if j = i then k else 0)
            split <;> split <;> first | omega | simp_all)⟩
        · have hki : ¬ (k : Int) < (ln i : Int) := by omega
          have ke : k = ln i := by have := hk.out; omega
          go_wp2_with fail
          go_roundg (n - (i + 1))
          case measure => have := hi.out; omega
          case rel => exact ⟨i + 1, by rw [Hid]; have := hi.out; omega, by go_num, J.out.less (fun j _ => by
            show (if j < i + 1 then ln j else 0) ≤ (if j < i then ln j else if j = i then k else 0)
            by_cases e : j = i
            · subst e; simp [ke]
            · split <;> split <;> omega)⟩
    · have hlt : ¬ (i : Int) < (n : Int) := by omega
      have ie : n = i := by have := hi.out; omega
      subst ie
      have LA : Hid (Re.L1 w0 n q ln cp bl gn ge n ln wr) := I.out.less (fun j hj => by simp [hj])
      have sn := LA.out.no.lt
      have se : ge < wr.heap.size := by obtain ⟨E, x, _⟩ := LA.out.en; exact x.lt
      have M2 := Re.make_is n (by omega)
      have y3 := alloc_b wr (.cells (Re.fl Re.es (List.replicate n (none, 0, 0))).toArray 29)
      have l3 : (wr.alloc (.cells (Re.fl Re.es (List.replicate n (none, 0, 0))).toArray 29)).heap.size = wr.heap.size + 1 := Array.size_push ..
      have F2 : Hid (Re.Fx w0 n q bl gn ge wr.heap.size (wr.heap.size + 1)) := by
        have := HB.out
        exact ⟨AP.out, OL.out, ON.out, OE.out, fun i hi e => by have := LT.out i hi _ e; omega, fun i hi g e => by have := LT.out i hi _ e; omega, by omega, by omega, by omega, by omega, by omega, by omega, by omega, LB.out, by omega⟩
      have S2 : Hid (Re.L2 w0 n q ln cp bl gn ge 900000007 16 wr.heap.size (wr.heap.size + 1) (wr.heap.size + 1) 0 (wr.alloc (.cells (Re.fl Re.es (List.replicate n (none, 0, 0))).toArray 29))) := by
        have := Re.L2.start (s := 900000007) (tt := 16) (LA.out.on y3) (Bx.new wr _ _)
        rwa [l3] at this
      clear I I0 LA y3 hlt hi
      go_upto_region 12 with fail
      generalize (wr.alloc (.cells (Re.fl Re.es (List.replicate n (none, 0, 0))).toArray 29)) = wb at *
      clear M2 l3
      generalize wr.heap.size + 1 = ba at *
      generalize wr.heap.size = bf at *
      go_wp2_with fail
      go_loopg [8] n (fun m iv wr => ∃ i : Nat, Hid (i + m = n) ∧ iv = .int .i64 (i : Int) ∧ Hid (∃ R, Re.L2 w0 n q ln cp bl gn ge 900000007 16 bf ba R i wr))
      case atStart => exact ⟨0, by rw [Hid]; omega, rfl, ⟨_, S2.out⟩⟩
      case round =>
        obtain ⟨i, hi, rfl, I⟩ := hrel
        by_cases h : i < n
        · have hlt : (i : Int) < (n : Int) := by omega
          obtain ⟨R, I2⟩ := I.out
          have r0 := I2.l1.row i h
          have G0 := hid (Re.G2.start I2 h)
          have hL := HL.out i h
          have hLb : (ln i : Int) ≤ 4398046511104 := by omega
          have w1 : IntKind.i64.wrap ((i : Int) + 1) = (i : Int) + 1 := by rw [IntKind.wrap_i64]; omega
          have w2 : IntKind.i64.wrap (900000007 * ((i : Int) + 1)) = 900000007 * ((i : Int) + 1) := by rw [IntKind.wrap_i64]; omega
          clear I I2 S2
          go_wp2_with fail
          clear r0
          go_loopg [9, 10] 16 (fun m gv nv wr => ∃ (t : Nat) (gq : Option Addr) (gc : Nat), Hid (t + m = 16) ∧ gv = .slice gq (ln i + t) gc ∧ nv = .int .i64 (t : Int) ∧ Hid (Re.G2 w0 n q ln cp bl gn ge 900000007 16 bf ba R i gq gc t t wr))
          case atStart => exact ⟨0, q i, cp i, by rw [Hid], rfl, rfl, G0⟩
          case round =>
            obtain ⟨t, gq, gc, ht, rfl, rfl, J⟩ := hrel
            by_cases h16 : t < 16
            · have hti : (t : Int) < 16 := by omega
              have w3 : IntKind.i64.wrap (900000007 * ((i : Int) + 1) + ((ln i + t : Nat) : Int)) = 900000007 * ((i : Int) + 1) + ((ln i + t : Nat) : Int) := by rw [IntKind.wrap_i64]; omega
              have yb := alloc_b wr (.cells #[.int .i64 (900000007 * ((i : Int) + 1) + ((ln i + t : Nat) : Int))] 3)
              obtain ⟨g', c', W', ap, J2⟩ := (J.out.on yb).app (t := t + 1) (m := 1) (B := [900000007 * ((i : Int) + 1) + ((ln i + t : Nat) : Int)]) F2.out h (Bx.new wr _ _) (by simp) (by simp only [List.length_singleton]; omega) (fun j h1 h2 => by
                have e : j = t := by omega
                subst e
                simp)
              simp only [List.length_singleton] at ap J2
              have APP := hid ap
              have J2 := hid J2
              clear ap yb J G0
              go_wp2_with (at_builtin; refine wpList_append_t rfl _ _ rfl APP.out (by rfl) (by rfl) ?_; clear APP)
              go_roundg (16 - (t + 1))
              case measure => have := ht.out; omega
              case rel => exact ⟨t + 1, _, c', by rw [Hid]; have := ht.out; omega, rfl, by go_num, J2⟩
            · have hti : ¬ (t : Int) < 16 := by omega
              have te : t = 16 := by have := ht.out; omega
              subst te
              obtain ⟨g, rfl⟩ := J.out.some (by omega)
              obtain ⟨⟨v, l, c, ce⟩, fe, J2⟩ := J.out.done F2.out h
              have J2 := hid J2
              clear J G0
              go_wp2_with fail
              go_roundg (n - (i + 1))
              case measure => have := hi.out; omega
              case rel => exact ⟨i + 1, by rw [Hid]; have := hi.out; omega, by go_num, ⟨_, J2.out⟩⟩
        · have hlt : ¬ (i : Int) < (n : Int) := by omega
          have ie : n = i := by have := hi.out; omega
          subst ie
          obtain ⟨R, I2⟩ := I.out
          have LA := hid I2.l1
          have H1 := hid (holdsown_yes bl gn n cl n 1000003 wr (I2.l1.holds HL.out) hn (by omega) (by omega))
          have H2 := hid (holdsown_yes bf ge n n n 900000007 wr (I2.holds HL.out (by omega)) hn (by omega) (by omega))
          clear I I2 S2 F2 hlt hi
          go_wp2_with fail
          refine H1.out.mono ?_
          rintro e wx ⟨rfl, rfl⟩
          clear H1
          go_wp2_with fail
          refine H2.out.mono ?_
          rintro e wx2 ⟨rfl, rfl⟩
          clear H2
          have sn := LA.out.no.lt
          have se : ge < wx2.heap.size := by obtain ⟨E, x, _⟩ := LA.out.en; exact x.lt
          have M2 := Re.make_is n (by omega)
          have y3 := alloc_b wx2 (.cells (Re.fl Re.es (List.replicate n (none, 0, 0))).toArray 29)
          have l3 : (wx2.alloc (.cells (Re.fl Re.es (List.replicate n (none, 0, 0))).toArray 29)).heap.size = wx2.heap.size + 1 := Array.size_push ..
          have F2 : Hid (Re.Fx w0 n q bl gn ge wx2.heap.size (wx2.heap.size + 1)) := by
            have := HB.out
            exact ⟨AP.out, OL.out, ON.out, OE.out, fun i hi e => by have := LT.out i hi _ e; omega, fun i hi g e => by have := LT.out i hi _ e; omega, by omega, by omega, by omega, by omega, by omega, by omega, by omega, LB.out, by omega⟩
          obtain ⟨N7, hN7⟩ : ∃ N : Nat, N = 70 := ⟨_, rfl⟩
          have HN7 := hid hN7
          clear hN7
          have S2 : Hid (Re.L2 w0 n q ln cp bl gn ge 700000001 N7 wx2.heap.size (wx2.heap.size + 1) (wx2.heap.size + 1) 0 (wx2.alloc (.cells (Re.fl Re.es (List.replicate n (none, 0, 0))).toArray 29))) := by
            have := Re.L2.start (s := 700000001) (tt := N7) (LA.out.on y3) (Bx.new wx2 _ _)
            rwa [l3] at this
          clear LA y3
          go_upto_region 24 with fail
          generalize (wx2.alloc (.cells (Re.fl Re.es (List.replicate n (none, 0, 0))).toArray 29)) = wb2 at *
          clear M2 l3
          generalize wx2.heap.size + 1 = ba2 at *
          generalize wx2.heap.size = bm at *
          go_wp2_with fail
          go_loopg [12] n (fun m iv wr => ∃ i : Nat, Hid (i + m = n) ∧ iv = .int .i64 (i : Int) ∧ Hid (∃ R, Re.L2 w0 n q ln cp bl gn ge 700000001 N7 bm ba2 R i wr))
          case atStart => exact ⟨0, by rw [Hid]; omega, rfl, ⟨_, S2.out⟩⟩
          case round =>
            obtain ⟨i, hi, rfl, I⟩ := hrel
            by_cases h : i < n
            · have hlt : (i : Int) < (n : Int) := by omega
              obtain ⟨R, I2⟩ := I.out
              have r0 := I2.l1.row i h
              have hL := HL.out i h
              have hLb : (ln i : Int) ≤ 4398046511104 := by omega
              have w1 : IntKind.i64.wrap ((i : Int) + 1) = (i : Int) + 1 := by rw [IntKind.wrap_i64]; omega
              have w2 : IntKind.i64.wrap (700000001 * ((i : Int) + 1)) = 700000001 * ((i : Int) + 1) := by rw [IntKind.wrap_i64]; omega
              obtain ⟨E, hE⟩ : ∃ E, E = ln i + N7 := ⟨_, rfl⟩
              obtain ⟨g', c', W', ap, J2⟩ := (Re.G2.start I2 h).appg (t := 0) (B := List.replicate N7 0) (Rn := fun g' c' w' => (Builtin.append_ #[29, 3] 29 #[.slice (q i) (ln i) (cp i), .int .i64 70]).run Tryz.prog wr = .ok (.slice (some ⟨g', 0, none⟩) E c') w') F2.out h
                (fun A l e => by
                  rw [Nat.add_zero] at e
                  have := l.appz (m := 70) (by omega) (by omega) (by omega) (Nat.zero_le _)
                  rw [e] at this
                  rw [hE, HN7.out]
                  exact this) (fun j h1 h2 => absurd h2 (Nat.not_lt_zero _))
              rw [List.length_replicate, Nat.zero_add] at J2
              have APP := hid ap
              have J2 := hid J2
              have HE := hid hE
              have eb : (E : Int) ≤ 5000000000000 := by have := HN7.out; omega
              clear ap I I2 S2 hE
              go_upto_region 28 with (at_builtin; refine Lib.wpList_append_run _ rfl _ _ _ _ rfl _ _ rfl rfl _ _ APP.out ?_; clear APP)
              clear r0
              have r0 := J2.out.l2.l1.row i h
              go_wp2_with fail
              clear r0
              go_loopg [14] N7 (fun m kv wr => ∃ t K : Nat, Hid (t + m = N7) ∧ Hid (K = ln i + t) ∧ kv = .int .i64 (K : Int) ∧ Hid (Re.G2 w0 n q ln cp bl gn ge 700000001 N7 bm ba2 R i (some ⟨g', 0, none⟩) c' N7 t wr))
              case atStart => exact ⟨0, ln i, by rw [Hid]; omega, by rw [Hid]; omega, rfl, J2⟩
              case round =>
                obtain ⟨t, K, ht, hK, rfl, J⟩ := hrel
                clear J2
                by_cases h7 : t < N7
                · obtain ⟨⟨v, ce⟩, fe, J3⟩ := J.out.put F2.out h h7
                  rw [← hK.out] at ce fe J3
                  have J3 := hid J3
                  clear J
                  have hti : (K : Int) < (E : Int) := by have := hK.out; have := HE.out; omega
                  have HK1 : Hid (K + 1 = ln i + (t + 1)) := congrArg (· + 1) hK.out
                  have kb : (K : Int) ≤ 5000000000000 := by omega
                  have HW : Hid (wrap64 ((K : Int) + 1) = ((K + 1 : Nat) : Int)) := by
                    rw [Hid, wrap64]
                    omega
                  have HT1 : Hid (t + 1 + (N7 - (t + 1)) = N7) := Nat.add_sub_cancel' h7
                  have w3 : IntKind.i64.wrap (700000001 * ((i : Int) + 1) + (K : Int)) = 700000001 * ((i : Int) + 1) + (K : Int) := by rw [IntKind.wrap_i64]; omega
                  go_wp2_with fail
                  go_roundg (N7 - (t + 1))
                  case measure => have := ht.out; omega
                  case rel => exact ⟨t + 1, K + 1, HT1, HK1, by first | rw [HW.out] | (congr 1), J3⟩
                · have te : t = N7 := by have := ht.out; omega
                  have hti : ¬ (K : Int) < (E : Int) := by have := hK.out; have := HE.out; omega
                  have J4 := J.out
                  rw [te] at J4
                  obtain ⟨⟨v, l, c, ce⟩, fe, J3⟩ := J4.done F2.out h
                  rw [← HE.out] at J3
                  have J3 := hid J3
                  clear J J4
                  go_wp2_with fail
                  go_roundg (n - (i + 1))
                  case measure => have := hi.out; omega
                  case rel => exact ⟨i + 1, by rw [Hid]; have := hi.out; omega, by go_num, ⟨_, J3.out⟩⟩
            · have hlt : ¬ (i : Int) < (n : Int) := by omega
              have ie : n = i := by have := hi.out; omega
              subst ie
              obtain ⟨R, I2⟩ := I.out
              have H1 := hid (holdsown_yes bl gn n cl n 1000003 wr (I2.l1.holds HL.out) hn (by omega) (by omega))
              have H2 := hid (holdsown_yes bm ge n n n 700000001 wr (I2.holds HL.out (by have := HN7.out; omega)) hn (by omega) (by omega))
              have BW := hid I2.l1.bw
              clear I I2 S2 F2 hlt hi
              go_wp2_with fail
              refine H1.out.mono ?_
              rintro e wx ⟨rfl, rfl⟩
              clear H1
              go_wp2_with fail
              refine H2.out.mono ?_
              rintro e wx3 ⟨rfl, rfl⟩
              clear H2
              go_wp2_with fail
              go_ret
              exact ⟨rfl, BW.out⟩
end Go.Proofs.YtpmmbaahoegmlaaGreatDoor

namespace Go.Proofs.YtpmmbaahoegmlaaGreatDoor
open Go Go.RowKit Go.Deep Go.Shelf

namespace Re
/-- A list of ints that can be read. -/
def RdI (w : World) (q : Option Addr) (P : List Int) : Prop := P = [] ∨ ∃ b, q = some ⟨b, 0, none⟩ ∧ ∀ j x, P[j]? = some x → w.cell? ⟨b, j, none⟩ = some (.int .i64 x)
theorem RdI.on {w w' : World} {q : Option Addr} {P : List Int} (h : RdI w q P) (k : Below w.heap.size w w') : RdI w' q P := by
  rcases h with h | ⟨b, e, h⟩
  · exact .inl h
  · exact .inr ⟨b, e, fun j x hj => by rw [k.cell (cell_lt (h j x hj))]; exact h j x hj⟩
theorem RdI.at {w : World} {q : Option Addr} {P : List Int} (h : RdI w q P) {j : Nat} {x : Int} (hj : P[j]? = some x) : ∃ b, q = some ⟨b, 0, none⟩ ∧ w.cell? ⟨b, j, none⟩ = some (.int .i64 x) := by
  rcases h with rfl | ⟨b, e, h⟩
  · simp at hj
  · exact ⟨b, e, h j x hj⟩
theorem RdI.of {w : World} {g : Nat} {P : List Int} (h : Bx w g 3 (fl ei P).toArray) : RdI w (some ⟨g, 0, none⟩) P := by
  refine .inr ⟨g, rfl, fun j x hj => h.cell j _ ?_⟩
  have e := fl_at ei_len hj 0 (by omega)
  rw [Nat.mul_one, Nat.add_zero] at e
  simpa [ei] using e
end Re

set_option maxRecDepth 100000 in
set_option maxHeartbeats 2000000 in
theorem sameints_yes (q r : Option Addr) (P : List Int) (c d : Nat) (w : World) (hq : Re.RdI w q P) (hr : Re.RdI w r P) (hl : P.length ≤ 4398046511104) :
    Calls Tryz.prog 9 #[.slice q P.length c, .slice r P.length d] w fun e w' => e = .returned (.bool true) ∧ Below w.heap.size w w' := by
  obtain ⟨n, hn⟩ : ∃ n, P.length = n := ⟨_, rfl⟩
  have HN := hid hn
  have HQ := hid hq
  have HR := hid hr
  rw [hn] at hl ⊢
  have nl : (n : Int) ≤ 4398046511104 := by omega
  clear hn hq hr hl
  go_enter Tryz.func9, Tryz.ntmps9
  go_wp2_with fail
  go_loopg [5] n (fun m iv wr => ∃ i : Nat, Hid (i + m = n) ∧ iv = .int .i64 (i : Int) ∧ Hid (Below w.heap.size w wr))
  case atStart => exact ⟨0, by rw [Hid]; omega, rfl, Below.refl _ _⟩
  case round =>
    obtain ⟨i, hi, rfl, B⟩ := hrel
    by_cases h : i < n
    · have hlt : (i : Int) < (n : Int) := by omega
      obtain ⟨x, hx⟩ : ∃ x, P[i]? = some x := ⟨_, List.getElem?_eq_getElem (by have := HN.out; omega)⟩
      obtain ⟨b, rfl, cb⟩ := (HQ.out.on B.out).at hx
      obtain ⟨e, rfl, ce⟩ := (HR.out.on B.out).at hx
      clear hx
      go_upto_region 6 with fail
      go_quiet (fail)
      have B2 := hid (below_drewN B.out nq)
      generalize wr.drewN nq = w2 at *
      clear B cb ce
      go_wp2_with fail
      go_roundg (n - (i + 1))
      case measure => have := hi.out; omega
      case rel => exact ⟨i + 1, by rw [Hid]; have := hi.out; omega, by go_num, B2⟩
    · have hlt : ¬ (i : Int) < (n : Int) := by omega
      go_wp2_with fail
      go_ret
      exact ⟨rfl, B.out⟩
end Go.Proofs.YtpmmbaahoegmlaaGreatDoor

namespace Go.Proofs.YtpmmbaahoegmlaaGreatDoor
open Go Go.RowKit Go.Deep Go.Shelf

namespace Re
theorem GR.b0 {α : Type} {enc : α → List Value} {k t base : Nat} {w : World} {g cap : Nat} {A : List α} (h : GR enc k t base w g cap A) : GR enc k t 0 w g cap A := ⟨h.bx, h.le, h.cm, Nat.zero_le _⟩
theorem Li.b0 {base : Nat} {w : World} {q : Option Addr} {c : Nat} {P : List Int} (h : Li base w q c P) : Li 0 w q c P := by
  rcases h with h | ⟨g, e, h⟩
  · exact .inl h
  · exact .inr ⟨g, e, h.b0⟩
theorem Li.ge {base : Nat} {w : World} {q : Option Addr} {c : Nat} {P : List Int} (h : Li base w q c P) {g : Nat} (e : q = some ⟨g, 0, none⟩) : base ≤ g ∧ g < w.heap.size := by
  rcases h with ⟨h, _, _⟩ | ⟨g', e', h⟩
  · rw [h] at e; cases e
  · rw [e] at e'
    simp only [Option.some.injEq, Addr.mk.injEq, and_true] at e'
    rw [e']
    exact ⟨h.bb, h.lt⟩
theorem GR.rd {base : Nat} {w : World} {g c : Nat} {P : List Int} (h : GR ei 1 3 base w g c P) : RdI w (some ⟨g, 0, none⟩) P := by
  refine .inr ⟨g, rfl, fun j x hj => ?_⟩
  have := h.cell ei_len hj 0 (by omega) (.int .i64 x) rfl
  rwa [Nat.mul_one, Nat.add_zero] at this
theorem Li.rd {base : Nat} {w : World} {q : Option Addr} {c : Nat} {P : List Int} (h : Li base w q c P) : RdI w q P := by
  rcases h with ⟨_, _, h⟩ | ⟨g, rfl, h⟩
  · exact .inl h
  · exact h.rd
/-- What the law has when the first four answers are there. -/
structure K4 (w0 : World) (X : List Vl) (s : ByteArray) (bm g c ga gb n : Nat) (qc qd : Option Addr) (cc cd : Nat) (P R : List Int) (z : Nat) (W : World) : Prop where
  mb : Bx W bm 26 (ev ⟨2, 0, s⟩).toArray
  fu : GR ev 3 26 0 W g c X
  a : GR ei 1 3 0 W ga n P
  b : GR ei 1 3 0 W gb n P
  c : Li 0 W qc cc R
  d : Li 0 W qd cd P
  bl : Below w0.heap.size w0 W
  sz : z ≤ W.heap.size
variable {w0 : World} {X : List Vl} {s : ByteArray} {bm g c ga gb ge gf n z : Nat} {qc qd : Option Addr} {cc cd cf : Nat} {P R : List Int} {W W' : World}
theorem K4.on (h : K4 w0 X s bm g c ga gb n qc qd cc cd P R z W) (b : Below W.heap.size W W') : K4 w0 X s bm g c ga gb n qc qd cc cd P R z W' :=
  ⟨h.mb.on b, h.fu.on b, h.a.on b, h.b.on b, h.c.on b, h.d.on b, below_on h.bl b, Nat.le_trans h.sz b.size⟩
/-- .. and then a copy of the first and a fifth. -/
structure K6 (w0 : World) (X : List Vl) (ga gb ge gf g c n : Nat) (qc qd : Option Addr) (cc cd : Nat) (P R : List Int) (z : Nat) (W : World) : Prop where
  fu : GR ev 3 26 0 W g c X
  a : GR ei 1 3 0 W ga n P
  b : GR ei 1 3 0 W gb n P
  c : Li 0 W qc cc R
  d : Li 0 W qd cd P
  e : GR ei 1 3 0 W ge n P
  f : RdI W (some ⟨gf, 0, none⟩) P
  bl : Below w0.heap.size w0 W
  sz : z ≤ W.heap.size
theorem K6.on (h : K6 w0 X ga gb ge gf g c n qc qd cc cd P R z W) (b : Below W.heap.size W W') : K6 w0 X ga gb ge gf g c n qc qd cc cd P R z W' :=
  ⟨h.fu.on b, h.a.on b, h.b.on b, h.c.on b, h.d.on b, h.e.on b, h.f.on b, below_on h.bl b, Nat.le_trans h.sz b.size⟩
/-- One of the list's values is written. -/
theorem K6.put (h : K6 w0 X ga gb ge gf g c n qc qd cc cd P R z W) {i : Nat} (hi : i < X.length) (x : Vl) (lo : w0.heap.size ≤ g) (na : ga ≠ g) (nb : gb ≠ g) (ne : ge ≠ g) (nf : gf ≠ g) (nc : ∀ z, qc = some ⟨z, 0, none⟩ → z ≠ g) (nd : ∀ z, qd = some ⟨z, 0, none⟩ → z ≠ g) :
    K6 w0 (X.set i x) ga gb ge gf g c n qc qd cc cd P R z (W.setCells g (i * 3) (ev x)) := by
  have k : Kp (fun b => b = g) W (W.setCells g (i * 3) (ev x)) := (Kp.refl (fun b => b = g) W).setcs (.inl rfl) _ _
  refine ⟨h.fu.put ev_len hi x, h.a.kp k na, h.b.kp k nb, h.c.kp k nc, h.d.kp k nd, h.e.kp k ne, ?_, h.bl.trans (k.below (Nat.le_trans lo (Nat.le_of_lt h.fu.lt)) ?_), Nat.le_trans h.sz k.size⟩
  · rcases h.f with f | ⟨b, e, f⟩
    · exact .inl f
    · refine .inr ⟨b, e, fun j y hj => ?_⟩
      have eb : b = gf := by simp at e; exact e.symm
      exact k.cell (f j y hj) (by rw [eb]; exact nf)
  · intro b e
    rw [e]; exact lo
/-- append to an empty list of our own. -/
theorem app_first {w : World} {g n : Nat} {Q : List Int} (h : GR ei 1 3 0 w g n Q) (hq : Q.length = n) (hl : n ≤ 4398046511104) :
    ∃ b c w', (Builtin.append_ #[29, 29] 29 #[.slice (some ⟨w.heap.size, 0, none⟩) 0 0, .slice (some ⟨g, 0, none⟩) n n]).run Tryz.prog (w.alloc (.cells #[] 3)) = .ok (.slice (some ⟨b, 0, none⟩) n c) w' ∧ w.heap.size ≤ b ∧ RdI w' (some ⟨b, 0, none⟩) Q ∧ Below w.heap.size w w' := by
  obtain ⟨i, hi, hz⟩ := Option.map_eq_some_iff.1 infoI
  simp only [Prod.mk.injEq] at hz
  obtain ⟨z1, z2, z3⟩ := hz
  have b1 := alloc_b w (.cells #[] 3)
  have hs : (w.alloc (.cells #[] 3)).heap.size = w.heap.size + 1 := by simp
  have h1 := h.on b1
  obtain ⟨cur, x, sz, rr⟩ := h1.bx
  have src : ∀ j u, (fl ei Q)[j]? = some u → (w.alloc (.cells #[] 3)).cell? ((⟨g, 0, none⟩ : Addr).add j) = some u := fun j u hu2 => by
    rw [Go.WideShapes.add_plain, Nat.zero_add]
    refine x.cell j u ?_
    rw [← rr, List.getElem?_take] at hu2
    split at hu2
    · rw [← Array.getElem?_toList]; exact hu2
    · simp at hu2
  have lq := fl_len ei_len Q
  rw [hq] at lq
  by_cases n0 : n = 0
  · subst n0
    refine ⟨w.heap.size, 0, _, ?_, Nat.le_refl _, .inl (List.eq_nil_of_length_eq_zero hq), b1⟩
    exact run_append_room_cells _ 29 29 3 i Tryz.underlying29 hi w.heap.size 0 0 0 ⟨g, 0, none⟩ 0 0 [] (by simp) (by simp) (by simp) (by omega) (by simp) (by simp)
  · have r := run_append_grow (P := Tryz.prog) (w.alloc (.cells #[] 3)) 29 29 3 i _ Tryz.underlying29 hi z1 ⟨w.heap.size, 0, none⟩ 0 0 [] (by simp) (by simp) ⟨g, 0, none⟩ n n _ (by rw [z2]; exact lq) src (by omega) (by omega) (by rw [Nat.zero_add, next0 n (by omega), z3]; omega)
    rw [Nat.zero_add] at r
    have ge := grownCap_ge (w.alloc (.cells #[] 3)) n 0 3
    have l1 : (fl ei Q).length = n := by rw [lq, Nat.mul_one]
    refine ⟨_, _, _, r, by rw [hs]; omega, ?_, below_on b1 (below_on (Below.drew (Below.refl _ _)) (alloc_b _ _))⟩
    refine .inr ⟨_, rfl, fun j y hj => ?_⟩
    have nb := Bx.new (w.alloc (.cells #[] 3)).drew 3 (([] : List Value).toArray ++ (fl ei Q).toArray ++ Builtin.zeroCells (Value.int .i64 0).cells (grownCap (w.alloc (.cells #[] 3)) n 0 3 - n))
    refine nb.cell j _ ?_
    have e := fl_at ei_len hj 0 (by omega)
    rw [Nat.mul_one, Nat.add_zero] at e
    have hj2 : j < (fl ei Q).length := by
      have := List.getElem?_eq_some_iff.1 hj
      rw [l1, ← hq]; exact this.1
    rw [show (([] : List Value).toArray) = #[] from rfl, Array.empty_append, Array.getElem?_append_left (by simpa using hj2), List.getElem?_toArray, e]
    rfl
abbrev Tri := Option Addr × Nat × Nat
def tq (L : List Tri) (i : Nat) : Option Addr := (L.getD i (none, 0, 0)).1
def tl (L : List Tri) (i : Nat) : Nat := (L.getD i (none, 0, 0)).2.1
def tc (L : List Tri) (i : Nat) : Nat := (L.getD i (none, 0, 0)).2.2
end Re
theorem apart6 (L : List Re.Tri) (t : Nat → Nat) (w0 w : World) (cs : Array Value) (hcs : cs = (L.map fun x => Value.slice x.1 x.2.1 x.2.2).toArray) (h6 : L.length = 6)
    (li : ∀ i, i < 6 → ∃ D, Re.Li 0 w (Re.tq L i) (Re.tc L i) D ∧ D.length = Re.tl L i) (hl : ∀ i, i < 6 → Re.tl L i ≤ 4398046511104)
    (ht : ∀ i, i < 6 → ∀ g, Re.tq L i = some ⟨g, 0, none⟩ → t i ≤ g ∧ g < t (i + 1)) (hm : ∀ i, i < 6 → t i ≤ t (i + 1)) (h0 : w0.heap.size ≤ t 0) (bw : Below w0.heap.size w0 w) :
    Calls Tryz.prog 11 #[.slice (some ⟨w.heap.size, 0, none⟩) 6 6] (w.alloc (.cells cs 29)) fun e w' => e = .returned (.bool true) ∧ Below w0.heap.size w0 w' := by
  have mono : ∀ j i, i ≤ j → j ≤ 6 → t i ≤ t j := by
    intro j
    induction j with
    | zero => intro i hi _; rw [Nat.le_zero.1 hi]; exact Nat.le_refl _
    | succ j ih =>
      intro i hi hj
      rcases Nat.lt_or_ge i (j + 1) with c | c
      · exact Nat.le_trans (ih i (by omega) (by omega)) (hm j (by omega))
      · rw [show i = j + 1 by omega]; exact Nat.le_refl _
  have ba := alloc_b w (.cells cs 29)
  have nb := Bx.new w 29 cs
  have lt : ∀ i, i < 6 → ∀ g, Re.tq L i = some ⟨g, 0, none⟩ → g < w.heap.size := fun i hi g e => by
    obtain ⟨D, l, _⟩ := li i hi
    exact (l.ge e).2
  refine apart_yes w.heap.size 6 6 (Re.tq L) (Re.tl L) (Re.tc L) w0 _ (fun i hi => nb.cell i _ ?_) (fun i hi => ?_) ?_ ?_ (fun i hi g e => ?_) (by simp) (below_on bw ba) hl (by omega)
  · have hi2 : i < L.length := by omega
    rw [hcs, List.getElem?_toArray, List.getElem?_map, List.getElem?_eq_getElem hi2]
    simp [Re.tq, Re.tl, Re.tc, List.getD, List.getElem?_eq_getElem hi2]
  · obtain ⟨D, l, e⟩ := li i hi
    exact ⟨D, l.on ba, e⟩
  · intro i j g hi hj e1 e2
    have a := ht i hi g e1
    have b := ht j hj g e2
    rcases Nat.lt_trichotomy i j with c | c | c
    · have := mono j (i + 1) (by omega) (by omega); omega
    · exact c
    · have := mono i (j + 1) (by omega) (by omega); omega
  · intro i hi e
    have := lt i hi _ e
    omega
  · have a := ht i hi g e
    have := mono i 0 (by omega) (by omega)
    omega
end Go.Proofs.YtpmmbaahoegmlaaGreatDoor
