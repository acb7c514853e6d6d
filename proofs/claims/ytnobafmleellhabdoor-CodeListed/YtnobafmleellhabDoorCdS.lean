/-
  code: line.
-/
import Derived.Test.YtnobafmleellhabDoorCdR
import Derived.Test.YtnobafmleellhabDoorVItoa
import Derived.Lib.ItoaLen
import Derived.Laws.Concat
namespace Go.Proofs.YtnobafmleellhabDoor
open Go Go.RowKit Go.Deep Go.Shelf

theorem ctab10_below {w w' : World} (h : Tab10 w) (k : Below w.heap.size w w') : Tab10 w' := by
  unfold Tab10 Lib.TabIs World.var? at *
  cases hg : Tryd.prog.globalNamed "internal/strconv.uint64pow10" with
  | none => rw [hg] at h; simp at h
  | some g =>
    rw [hg] at h
    simp only [Option.bind_some] at h ⊢
    have hl : g < w.heap.size := by
      rcases Nat.lt_or_ge g w.heap.size with c | c
      · exact c
      · rw [Array.getElem?_eq_none c] at h; simp at h
    rw [k.block g hl]; exact h
namespace Cd
def fd (v : Int) : Ch.L8 := 32 :: Lib.itoa v
def tl (x : In) (nums : List Int) (strs : List ByteArray) : Ch.L8 :=
  if (rx x).a = 1 then 32 :: hex16 (nums.getD x.a.toNat 0) else if (rx x).a = 2 then 32 :: qt (strs.getD x.a.toNat ByteArray.empty).data.toList else []
def ln (i : Nat) (x : In) (nums : List Int) (strs : List ByteArray) : Ch.L8 :=
  Lib.itoa i ++ [58, 32] ++ (rx x).name.data.toList ++ (fs (rx x) x.a x.b).flatMap fd ++ tl x nums strs ++ [10]
theorem tab_nm : ∀ r ∈ tab, r.name.size ≤ 9 := by
  intro r hr
  simp only [tab, List.mem_cons, List.not_mem_nil, or_false] at hr
  rcases hr with h | h | h | h | h | h | h | h | h | h | h | h | h | h | h | h | h | h | h | h | h | h | h | h | h | h | h | h | h | h | h | h | h | h <;> (rw [h]; decide)
theorem row_nm (n : Nat) : (row n).name.size ≤ 9 := by
  by_cases h : n < 34
  · refine tab_nm _ ?_
    rw [row, List.getD_eq_getElem?_getD, List.getElem?_eq_getElem (by rw [tab_len]; exact h)]
    exact List.getElem_mem _
  · have : row n = zr := by rw [row, List.getD_eq_getElem?_getD, List.getElem?_eq_none (by rw [tab_len]; omega)]; rfl
    rw [this]; decide
end Cd
theorem bx_three (w : World) (A B C : Array Value) (s t u : Nat) : Bx (((w.alloc (.cells A s)).alloc (.cells B t)).alloc (.cells C u)) w.heap.size s A ∧ Bx (((w.alloc (.cells A s)).alloc (.cells B t)).alloc (.cells C u)) (w.heap.size + 1) t B ∧ Bx (((w.alloc (.cells A s)).alloc (.cells B t)).alloc (.cells C u)) (w.heap.size + 1 + 1) u C := by
  obtain ⟨h1, h2⟩ := bx_two w A B s t
  refine ⟨h1.on (alloc_b _ _), h2.on (alloc_b _ _), ?_⟩
  have := heap_alloc_new ((w.alloc (.cells A s)).alloc (.cells B t)) (.cells C u)
  rwa [World.size_alloc, World.size_alloc] at this
theorem cd_b3 (w : World) (A B C : Obj) : Below w.heap.size w (((w.alloc A).alloc B).alloc C) := below_on (cd_b2 w A B) (alloc_b _ C)
theorem sz_itoa (n : Int) (h0 : -9223372036854775808 ≤ n) (h1 : n ≤ 9223372036854775807) : (⟨(Lib.itoa n).toArray⟩ : ByteArray).size ≤ 21 := by
  have := Lib.itoa_length_le n h0 h1
  simpa [ByteArray.size] using this
set_option maxRecDepth 100000 in
set_option maxHeartbeats 8000000 in
theorem clin_any {w : World} {wb : Nat} {L : Ch.L8} (h : WS w wb L) (w0 : World) (hw : Below w0.heap.size w0 w) (hb : w0.heap.size ≤ wb) (hT : Tab10 w0) (i n cap c2 c3 : Nat) (p q r : Option Addr) (x : Cd.In) (nums : List Int) (strs : List ByteArray) (hi : i ≤ 9223372036854775807) (hx : Cd.rt n nums.length strs.length i x = true) (hn : n ≤ 9223372036854775807) (hN : nums.length ≤ 9223372036854775807) (hS : strs.length ≤ 9223372036854775807)
    (hQ : Cd.NI w0 q nums) (hR : TR w0 r strs) (hU : Cd.U64 nums) (hZ : ∀ s ∈ strs, s.size ≤ 9223372036854775807) :
    Calls Tryd.prog 24 #[.pointer (some ⟨wb, 0, none⟩), .int .i64 (i : Int), .agg #[.int .i64 x.w, .int .i64 x.a, .int .i64 x.b], .agg #[.string (Cd.rx x).name, .int .i64 (Cd.rx x).a, .int .i64 (Cd.rx x).b, .int .i64 (Cd.rx x).takes, .int .i64 (Cd.rx x).puts], .agg #[.slice p n cap, .slice q nums.length c2, .slice r strs.length c3]] w fun e w' => e = .returned (.tuple #[]) ∧ WS w' wb (L ++ Cd.ln i x nums strs) ∧ Fk wb w w' := by
  obtain ⟨ro, -, r1, r2⟩ := Cd.rt_ok hx
  obtain ⟨x1, x2, x3⟩ := Cd.rt_wr hx (by omega) (by omega) (by omega)
  have ia : (i : Int) ≤ 9223372036854775807 := by omega
  have i0 : (0 : Int) ≤ (i : Int) := by omega
  have wl := h.lt
  have nm := Cd.row_nm x.w.toNat
  have nm' : (Cd.rx x).name.size ≤ 9 := nm
  obtain ⟨F, hF⟩ : ∃ F, Cd.fs (Cd.rx x) x.a x.b = F := ⟨_, rfl⟩
  have FD := hid (fun W => cflds_any (Cd.rx x) x W)
  have VB : Hid (∀ j, j < F.length → ∃ v : Nat, F[j]? = some (v : Int) ∧ v ≤ 9223372036854775807) := fun j hj => by
    obtain ⟨v0, v1⟩ := x3 (F[j]) (by rw [hF]; exact List.getElem_mem _)
    exact ⟨F[j].toNat, by rw [List.getElem?_eq_getElem hj]; congr 1; omega, by omega⟩
  have FL2 : F.length ≤ 2 := by rw [← hF]; unfold Cd.fs; split <;> split <;> simp
  have LE : Hid (L ++ Cd.ln i x nums strs = L ++ (⟨(Lib.itoa i).toArray⟩ ++ ⟨#[58, 32]⟩ ++ (Cd.rx x).name : ByteArray).data.toList ++ F.flatMap Cd.fd ++ Cd.tl x nums strs ++ [10]) := by
    rw [Hid, Cd.ln, hF]
    simp [ByteArray.data_append]
  rw [hF] at FD
  obtain ⟨M, hM⟩ : ∃ M, F.length = M := ⟨_, rfl⟩
  rw [hM] at FD FL2 VB
  have M2 : (M : Int) ≤ 2 := by omega
  have FN : Hid ((F.take M).flatMap Cd.fd = F.flatMap Cd.fd) := by rw [Hid, ← hM, List.take_length]
  have FI : Hid (∀ j v, F[j]? = some v → _) := fun j v hv => Cd.flat_take Cd.fd F j v hv
  have sD := sz_itoa i (by omega) ia
  have T10 : Hid (∀ W, Below w0.heap.size w0 W → Tab10 W) := fun W hW => ctab10_below hT hW
  have B0 : Hid (Below w0.heap.size w0 (((w.alloc (.cells #[.int .i64 x.w, .int .i64 x.a, .int .i64 x.b] 28)).alloc (.cells #[.string (Cd.rx x).name, .int .i64 (Cd.rx x).a, .int .i64 (Cd.rx x).b, .int .i64 (Cd.rx x).takes, .int .i64 (Cd.rx x).puts] 53)).alloc (.cells #[.slice p n cap, .slice q nums.length c2, .slice r strs.length c3] 26))) := Below.trans hw ((cd_b3 w _ _ _).mono (by omega))
  have K0 := hid (Fk.of (wb := wb) (cd_b3 w (.cells #[.int .i64 x.w, .int .i64 x.a, .int .i64 x.b] 28) (.cells #[.string (Cd.rx x).name, .int .i64 (Cd.rx x).a, .int .i64 (Cd.rx x).b, .int .i64 (Cd.rx x).takes, .int .i64 (Cd.rx x).puts] 53) (.cells #[.slice p n cap, .slice q nums.length c2, .slice r strs.length c3] 26)) (by omega))
  have W0 := hid (h.on (cd_b3 w (.cells #[.int .i64 x.w, .int .i64 x.a, .int .i64 x.b] 28) (.cells #[.string (Cd.rx x).name, .int .i64 (Cd.rx x).a, .int .i64 (Cd.rx x).b, .int .i64 (Cd.rx x).takes, .int .i64 (Cd.rx x).puts] 53) (.cells #[.slice p n cap, .slice q nums.length c2, .slice r strs.length c3] 26)))
  obtain ⟨y1, y2, y3⟩ := bx_three w #[.int .i64 x.w, .int .i64 x.a, .int .i64 x.b] #[.string (Cd.rx x).name, .int .i64 (Cd.rx x).a, .int .i64 (Cd.rx x).b, .int .i64 (Cd.rx x).takes, .int .i64 (Cd.rx x).puts] #[.slice p n cap, .slice q nums.length c2, .slice r strs.length c3] 28 53 26
  have XX := hid (And.intro y1 (And.intro y2 y3))
  have TL1 : Hid ((Cd.rx x).a = 1 → ∃ A v, x.a = ((A : Nat) : Int) ∧ A < nums.length ∧ nums[A]? = some v ∧ 0 ≤ v ∧ v < 18446744073709551616 ∧ Cd.tl x nums strs = 32 :: Cd.hex16 v) := fun e => by
    have a0 := r1 e
    have f := (Cd.ok_ft ro).2.2
    unfold Cd.ft at f
    rw [if_neg (by omega), Bool.and_eq_true] at f
    have a1 := (Cd.hd_rng f.1).1
    have al : x.a.toNat < nums.length := by omega
    refine ⟨x.a.toNat, _, by omega, al, List.getElem?_eq_getElem al, (hU _ (List.getElem_mem _)).1, (hU _ (List.getElem_mem _)).2, ?_⟩
    unfold Cd.tl
    rw [if_pos e, List.getD_eq_getElem?_getD, List.getElem?_eq_getElem al]
    rfl
  have TL2 : Hid ((Cd.rx x).a = 2 → ∃ A v, x.a = ((A : Nat) : Int) ∧ A < strs.length ∧ strs[A]? = some v ∧ v.size ≤ 9223372036854775807 ∧ Cd.tl x nums strs = 32 :: Cd.qt v.data.toList) := fun e => by
    have a0 := r2 e
    have f := (Cd.ok_ft ro).2.2
    unfold Cd.ft at f
    rw [if_neg (by omega), Bool.and_eq_true] at f
    have a1 := (Cd.hd_rng f.1).1
    have al : x.a.toNat < strs.length := by omega
    refine ⟨x.a.toNat, _, by omega, al, List.getElem?_eq_getElem al, hZ _ (List.getElem_mem _), ?_⟩
    unfold Cd.tl
    rw [if_neg (by omega), if_pos e, List.getD_eq_getElem?_getD, List.getElem?_eq_getElem al]
    rfl
  have TL3 : Hid ((Cd.rx x).a ≠ 1 → (Cd.rx x).a ≠ 2 → Cd.tl x nums strs = []) := fun e f => by unfold Cd.tl; rw [if_neg e, if_neg f]
  have Q0 := hid hQ
  have HW := hid hw
  have R0 := hid hR
  generalize Cd.ln i x nums strs = LL at *
  generalize Cd.tl x nums strs = TT at *
  clear hx r1 r2 x3 hM hF hQ hR hU hZ ro y1 y2 y3 hw hT h nm
  generalize hNl : nums.length = N at *
  generalize hSl : strs.length = S at *
  clear hNl hSl
  have hNi : (N : Int) ≤ 9223372036854775807 := by omega
  have hSi : (S : Int) ≤ 9223372036854775807 := by omega
  generalize Cd.rx x = rr at *
  obtain ⟨xw, xa, xb⟩ := x
  obtain ⟨nam, ra, rb, rt, rp⟩ := rr
  simp only at *
  obtain ⟨D, hD⟩ : ∃ D : ByteArray, (⟨(Lib.itoa (i : Int)).toArray⟩ : ByteArray) = D := ⟨_, rfl⟩
  have IT : Hid (∀ W, Below w0.heap.size w0 W → _) := fun W hW => itoa_any (i : Int) W (by omega) ia (T10.out W hW)
  rw [hD] at IT LE sD
  clear hD
  have cs1 : ¬ 9223372036854775807 < D.size + 2 := by omega
  have cs2 : D.size + 2 ≤ 9223372036854775807 := by omega
  have cs3 : ¬ 9223372036854775807 < D.size + 2 + nam.size := by omega
  have cs4 : D.size + 2 + nam.size ≤ 9223372036854775807 := by omega
  have CA1 : ∀ wx, (Op.stringOp .add D ⟨#[58, 32]⟩).run Tryd.prog wx = .ok (.string (D ++ ⟨#[58, 32]⟩)) wx := fun wx => run_string_add_sum wx _ _ (by show D.size + 2 ≤ _; omega)
  have CA2 : ∀ wx, (Op.stringOp .add (D ++ ⟨#[58, 32]⟩) nam).run Tryd.prog wx = .ok (.string (D ++ ⟨#[58, 32]⟩ ++ nam)) wx := fun wx => run_string_add_sum wx _ _ (by rw [ByteArray.size_append]; show D.size + 2 + _ ≤ _; omega)
  have TXT : Hid (∀ W, WS W wb L → _) := fun W hW => ctext_any hW (D ++ ⟨#[58, 32]⟩ ++ nam) (by rw [ByteArray.size_append, ByteArray.size_append]; show D.size + 2 + _ ≤ _; omega)
  go_enter Tryd.func24, Tryd.ntmps24
  go_upto_region 1 with fail
  have b1 : w.heap.size ≠ wb := by omega
  have b2 : w.heap.size + 1 ≠ wb := by omega
  have wl1 := W0.out.lt
  have b3 : w.heap.size + 1 + 1 ≠ wb := by omega
  generalize ((w.alloc (.cells #[.int .i64 xw, .int .i64 xa, .int .i64 xb] 28)).alloc (.cells #[.string nam, .int .i64 ra, .int .i64 rb, .int .i64 rt, .int .i64 rp] 53)).alloc (.cells #[.slice p n cap, .slice q N c2, .slice r S c3] 26) = w1 at *
  generalize w.heap.size = B at *
  have U0 : Hid (Below w1.heap.size w1 w1.drew) := Below.drew (Below.refl _ _)
  have N0 : w1.drew.cell? ⟨B + 1, 0, none⟩ = some (.string nam) := (bx5 (XX.out.2.1.on U0.out)).1
  go_region_held3 (fun W => W.cell? ⟨B + 1, 0, none⟩ = some (.string nam)) (first | (with_reducible exact N0) | (with_reducible exact N1) | (with_reducible exact N2)) (first
    | (go_at_call 33; with_reducible refine (IT.out _ (below_on B0.out U0.out)).mono ?_; rintro e w2 ⟨rfl, hB⟩; have U1 := hid (below_on U0.out hB); have N1 : w2.cell? ⟨B + 1, 0, none⟩ = some (.string nam) := (bx5 (XX.out.2.1.on U1.out)).1; clear hB)
    | (go_at_call 20; with_reducible refine (TXT.out _ (W0.out.on U1.out)).mono ?_; rintro e w3 ⟨rfl, g1, g2⟩; have W3 := hid g1; have K3 := hid (K0.out.trans ((Fk.of U1.out (Nat.le_of_lt wl1)).trans g2)); have X3 := hid (And.intro (g2.bx _ _ _ (by decide) b1 (XX.out.1.on U1.out)) (And.intro (g2.bx _ _ _ (by decide) b2 (XX.out.2.1.on U1.out)) (g2.bx _ _ _ (by decide) b3 (XX.out.2.2.on U1.out)))); have N2 : w3.cell? ⟨B + 1, 0, none⟩ = some (.string nam) := (bx5 X3.out.2.1).1; clear g1 g2))
  all_goals
    have wl3 := W3.out.lt
    clear U0 N0 N1 N2 U1 IT TXT XX W0 CA1 CA2 cs1 cs2 cs3 cs4 wl1 K0 B0
    obtain ⟨p1, p2, p3, p4, p5⟩ := bx5 X3.out.2.1
    obtain ⟨q1, q2, q3⟩ := bx3 X3.out.1
    go_wp2_with (go_at_call 32; with_reducible refine (FD.out _).mono ?_; rintro e w4 ⟨pp, cp, rfl, hf, hg, hB⟩; have F4 := hid hf; have PG := hid hg; have V4 := hid hB; clear hB hf hg FD)
    have PN : Hid (∀ g, pp = some ⟨g, 0, none⟩ → g ≠ wb) := fun g hg => by
      have h1 : w3.heap.size ≤ g := PG.out g hg
      omega
    have S7 : Hid (WS w4 wb (L ++ (D ++ ⟨#[58, 32]⟩ ++ nam : ByteArray).data.toList ++ (F.take 0).flatMap Cd.fd) ∧ Fk wb w w4 ∧ Cd.FL w4 pp F ∧ Bx w4 B 28 #[.int .i64 xw, .int .i64 xa, .int .i64 xb] ∧ Bx w4 (B + 1) 53 #[.string nam, .int .i64 ra, .int .i64 rb, .int .i64 rt, .int .i64 rp] ∧ Bx w4 (B + 1 + 1) 26 #[.slice p n cap, .slice q N c2, .slice r S c3]) :=
      ⟨by simpa using W3.out.on V4.out, K3.out.trans (Fk.of V4.out (by omega)), F4.out, X3.out.1.on V4.out, X3.out.2.1.on V4.out, X3.out.2.2.on V4.out⟩
    generalize (D ++ ⟨#[58, 32]⟩ ++ nam : ByteArray).data.toList = H at *
    clear p1 p2 p3 p4 p5 q1 q2 q3 W3 K3 X3 F4 V4 PG
    go_loopg [24] M (fun m' iv wr => ∃ j : Nat, j + m' = M ∧ iv = .int .i64 (j : Int) ∧ Hid (WS wr wb (L ++ H ++ (F.take j).flatMap Cd.fd) ∧ Fk wb w wr ∧ Cd.FL wr pp F ∧ Bx wr B 28 #[.int .i64 xw, .int .i64 xa, .int .i64 xb] ∧ Bx wr (B + 1) 53 #[.string nam, .int .i64 ra, .int .i64 rb, .int .i64 rt, .int .i64 rp] ∧ Bx wr (B + 1 + 1) 26 #[.slice p n cap, .slice q N c2, .slice r S c3]))
    case atStart => exact ⟨0, by omega, rfl, S7⟩
    case round =>
      obtain ⟨j, hj, rfl, J⟩ := hrel
      clear S7
      by_cases jl : j < M
      · have jli : (j : Int) < (M : Int) := by omega
        obtain ⟨v, hv, v1⟩ := VB.out j jl
        have vi : (v : Int) ≤ 9223372036854775807 := by omega
        have vi0 : (0 : Int) ≤ (v : Int) := by omega
        obtain ⟨g, rfl, cg⟩ := J.out.2.2.1.cell hv
        have E2 := FI.out j _ hv
        have sV := sz_itoa (v : Int) (by omega) vi
        have IV := hid (itoa_any (v : Int) wr (by omega) vi (T10.out _ (HW.out.trans (J.out.2.1.bel.mono hb))))
        have e3 : Cd.fd (v : Int) = ((⟨#[32]⟩ : ByteArray) ++ ⟨(Lib.itoa (v : Int)).toArray⟩).data.toList := by simp [Cd.fd, ByteArray.data_append]
        rw [e3] at E2
        generalize (⟨(Lib.itoa (v : Int)).toArray⟩ : ByteArray) = T at *
        have cs1 : ¬ 9223372036854775807 < 1 + T.size := by omega
        have cs2 : 1 + T.size ≤ 9223372036854775807 := by omega
        have TV : Hid (∀ W, WS W wb (L ++ H ++ (F.take j).flatMap Cd.fd) → Calls Tryd.prog 20 #[.pointer (some ⟨wb, 0, none⟩), .string (⟨#[32]⟩ ++ T)] W fun e w' => e = .returned (.tuple #[]) ∧ WS w' wb (L ++ H ++ (F.take (j + 1)).flatMap Cd.fd) ∧ Fk wb W w') := fun W hW => by
          have := ctext_any hW (⟨#[32]⟩ ++ T) (by rw [ByteArray.size_append]; show 1 + _ ≤ _; omega)
          rw [E2, ← List.append_assoc]
          exact this
        have JJ := hid J.out
        have gw := PN.out g rfl
        have wlr := J.out.1.lt
        clear E2 e3 J hv FI FN LE VB TL1 TL2 TL3 Q0 R0
        go_wp2_with (first
          | (go_at_call 33; with_reducible refine IV.out.mono ?_; rintro e w7 ⟨rfl, hB⟩; have W7 := hid (JJ.out.1.on hB); have B7 := hid hB; clear hB IV)
          | (go_at_call 20; with_reducible refine (TV.out _ W7.out).mono ?_; rintro e w8 ⟨rfl, g1, g2⟩; have k8 := (Fk.of B7.out (Nat.le_of_lt wlr)).trans g2; have F8 := hid (And.intro g1 (And.intro (JJ.out.2.1.trans k8) (And.intro (Cd.fl_fk JJ.out.2.2.1 k8 PN.out) (And.intro (k8.bx _ _ _ (by decide) b1 JJ.out.2.2.2.1) (And.intro (k8.bx _ _ _ (by decide) b2 JJ.out.2.2.2.2.1) (k8.bx _ _ _ (by decide) b3 JJ.out.2.2.2.2.2)))))); clear g1 g2 k8 TV JJ B7 W7))
        go_roundg (M - (j + 1))
        case measure => omega
        case rel => exact ⟨j + 1, by omega, by go_num, F8⟩
      · have jli : ¬ (j : Int) < (M : Int) := by omega
        obtain rfl : j = M := by omega
        have W5 := hid J.out.1
        rw [FN.out] at W5
        have K5 := hid J.out.2.1
        have X5 := hid (And.intro J.out.2.2.2.1 (And.intro J.out.2.2.2.2.1 J.out.2.2.2.2.2))
        have LS : Hid (∀ W, WS W wb (L ++ H ++ F.flatMap Cd.fd ++ TT) → Calls Tryd.prog 31 #[.pointer (some ⟨wb, 0, none⟩), .slice (some ⟨W.heap.size, 0, none⟩) 1 1] (W.alloc (.cells #[.int .u8 10] 5)) fun e w' => e = .returned (.tuple #[]) ∧ WS w' wb (L ++ LL) ∧ Fk wb W w') := fun W hW => by
          have := cput1_any hW 10 10 rfl
          rw [← LE.out] at this
          exact this
        obtain ⟨p1, p2, p3, p4, p5⟩ := bx5 X5.out.2.1
        clear J FI FN LE VB
        generalize L ++ H ++ F.flatMap Cd.fd = L2 at *
        have P1 := hid (cput1_any W5.out 32 32 rfl)
        by_cases h1 : ra = 1
        · obtain ⟨A, v, rfl, e2, e3, e4, e5, e6⟩ := TL1.out h1
          have Ai : (A : Int) < (N : Int) := by omega
          have Ai0 : (0 : Int) ≤ (A : Int) := by omega
          subst h1
          have BT : Hid (∀ W, WS W wb (L2 ++ [32]) → Calls Tryd.prog 34 #[.pointer (some ⟨wb, 0, none⟩), .int .u64 v] W fun e w' => e = .returned (.tuple #[]) ∧ WS w' wb (L2 ++ TT) ∧ Fk wb W w') := fun W hW => by
            have := cbits_any hW v e4 e5
            rw [e6, List.append_cons]
            exact this
          have QC : Hid (∀ W, Below w0.heap.size w0 W → ∃ b off, q = some ⟨b, off, none⟩ ∧ W.cell? ⟨b, off + A, none⟩ = some (.int .u64 v)) := fun W hW => Q0.out.below hW (Nat.le_refl _) A v e3
          clear e3 e6 TL1 TL2 TL3 Q0 R0
          go_upto_region 10 with (go_at_call 31; with_reducible refine P1.out.mono ?_; rintro e w6 ⟨rfl, g1, g2⟩; have W6 := hid g1; have K6 := hid (K5.out.trans g2); have X6 := hid (And.intro (g2.bx _ _ _ (by decide) b1 X5.out.1) (g2.bx _ _ _ (by decide) b3 X5.out.2.2)); clear g1 g2 P1)
          obtain ⟨b, off, rfl, cq⟩ := QC.out w6 (HW.out.trans (K6.out.bel.mono hb))
          obtain ⟨q1, q2, q3⟩ := bx3 X6.out.1
          obtain ⟨k1, k2, k3⟩ := bx3 X6.out.2
          go_wp2_with (first
            | (go_at_call 34; with_reducible refine (BT.out _ W6.out).mono ?_; rintro e w7 ⟨rfl, g1, g2⟩; have W7 := hid g1; have K7 := hid (K6.out.trans g2); clear g1 g2 BT)
            | (go_at_call 31; with_reducible refine (LS.out _ W7.out).mono ?_; rintro e w8 ⟨rfl, g1, g2⟩; have F8 := hid (And.intro g1 (K7.out.trans g2)); clear g1 g2 LS))
          go_end0
          exact ⟨rfl, F8.out⟩
        · by_cases h2 : ra = 2
          · obtain ⟨A, v, rfl, e2, e3, e4, e6⟩ := TL2.out h2
            have Ai : (A : Int) < (S : Int) := by omega
            have Ai0 : (0 : Int) ≤ (A : Int) := by omega
            subst h2
            have BT : Hid (∀ W, WS W wb (L2 ++ [32]) → Calls Tryd.prog 35 #[.pointer (some ⟨wb, 0, none⟩), .string v] W fun e w' => e = .returned (.tuple #[]) ∧ WS w' wb (L2 ++ TT) ∧ Fk wb W w') := fun W hW => by
              have := cquo_any hW v e4
              rw [e6, List.append_cons]
              exact this
            have QC : Hid (∀ W, Below w0.heap.size w0 W → ∃ b off, r = some ⟨b, off, none⟩ ∧ W.cell? ⟨b, off + A, none⟩ = some (.string v)) := fun W hW => by
              rcases R0.out.below hW (Nat.le_refl _) with rfl | ⟨b, off, rfl, h⟩
              · simp at e3
              · exact ⟨b, off, rfl, h A v e3⟩
            clear e3 e6 TL1 TL2 TL3 Q0 R0
            go_upto_region 13 with (go_at_call 31; with_reducible refine P1.out.mono ?_; rintro e w6 ⟨rfl, g1, g2⟩; have W6 := hid g1; have K6 := hid (K5.out.trans g2); have X6 := hid (And.intro (g2.bx _ _ _ (by decide) b1 X5.out.1) (g2.bx _ _ _ (by decide) b3 X5.out.2.2)); clear g1 g2 P1)
            obtain ⟨b, off, rfl, cq⟩ := QC.out w6 (HW.out.trans (K6.out.bel.mono hb))
            obtain ⟨q1, q2, q3⟩ := bx3 X6.out.1
            obtain ⟨k1, k2, k3⟩ := bx3 X6.out.2
            go_wp2_with (first
              | (go_at_call 35; with_reducible refine (BT.out _ W6.out).mono ?_; rintro e w7 ⟨rfl, g1, g2⟩; have W7 := hid g1; have K7 := hid (K6.out.trans g2); clear g1 g2 BT)
              | (go_at_call 31; with_reducible refine (LS.out _ W7.out).mono ?_; rintro e w8 ⟨rfl, g1, g2⟩; have F8 := hid (And.intro g1 (K7.out.trans g2)); clear g1 g2 LS))
            go_end0
            exact ⟨rfl, F8.out⟩
          · have e6 := TL3.out h1 h2
            have W6 := hid W5.out
            rw [show L2 = L2 ++ TT by rw [e6, List.append_nil]] at W6
            clear e6 TL1 TL2 TL3 Q0 R0 P1 W5
            go_wp2_with (go_at_call 31; with_reducible refine (LS.out _ W6.out).mono ?_; rintro e w8 ⟨rfl, g1, g2⟩; have F8 := hid (And.intro g1 (K5.out.trans g2)); clear g1 g2 LS)
            go_end0
            exact ⟨rfl, F8.out⟩
end Go.Proofs.YtnobafmleellhabDoor
