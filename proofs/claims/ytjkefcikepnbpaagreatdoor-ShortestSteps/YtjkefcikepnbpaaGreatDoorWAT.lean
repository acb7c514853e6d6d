/-
  Texts put together: NWritten, NInBase, FDigits, LExact, LHalf, LSpan, LPlaced, LGap, LModest, FExact, FExact2, FAll.
-/
import Derived.Test.YtjkefcikepnbpaaGreatDoorWAS
import Derived.Test.YtjkefcikepnbpaaGreatDoorWAG
import Derived.Test.YtjkefcikepnbpaaGreatDoorWAA
import Derived.Test.YtjkefcikepnbpaaGreatDoorWAD
import Derived.Test.YtjkefcikepnbpaaGreatDoorWAB
import Derived.Test.YtjkefcikepnbpaaGreatDoorWAE
import Derived.Test.YtjkefcikepnbpaaGreatDoorWAL
import Derived.Test.YtjkefcikepnbpaaGreatDoorWAM
import Derived.Test.YtjkefcikepnbpaaGreatDoorWAJ
import Derived.Deep.RegionHeld3
import Derived.Deep.CutBlock
import Derived.OwnWalk
import Derived.Deep.CutRange
import Derived.Deep.LoopGhost
import Derived.Lib.AppendIntMem
namespace Go.Proofs.YtjkefcikepnbpaaGreatDoor
open Go.RowKit Go.Deep

/-- The letters of a row of digits. -/
def lets (lt ds : List Int) : List Int := ds.map (fun d => lt.getD d.toNat 0)

/-- The list of powers, as spread wants it. -/
theorem RowsIn.pows {base g : Nat} {b A : Int} {pm : Option Addr} {K cp : Nat} {l : List (Option Addr × List Int)} {w w' : World} (h : RowsIn base b A (.slice pm K cp) l w) (hl : l.length = K) (hg : w.heap.size ≤ g) (hb : Below w.heap.size w w') (hA : A < Nm.pw 4096) : Pows g b pm K w' := by
  intro s hs
  have he : l[s]? = some l[s] := List.getElem?_eq_getElem (by omega)
  obtain ⟨h1, h2⟩ := h.row s _ he
  rcases h.own.2 with ⟨_, h0⟩ | ⟨gm, cp', cur, hv, _⟩
  · omega
  · simp only [Value.slice.injEq] at hv
    obtain ⟨rfl, hK, rfl⟩ := hv
    have hc := h.own.cells (g := gm) rfl s (rowV l[s]) (by rw [List.getElem?_map, he]; rfl)
    rw [Go.WideShapes.add_plain, Nat.zero_add] at hc
    have ht : Nm.tsize (l[s]).2 ≤ 4096 := (Nm.tsize_le_iff h1.2.1 4096).2 (by rw [h1.2.2.2.1]; exact Int.lt_of_le_of_lt h2 hA)
    refine ⟨gm, (l[s]).1, (l[s]).2, rfl, Nat.lt_of_lt_of_le (cell_lt hc) hg, ?_, ?_, h1.2.2.2.1, ht, fun a ha => Nat.lt_of_lt_of_le (h1.2.2.2.2 a ha).1 hg⟩
    · rw [hb.cell (p := ⟨gm, s, none⟩) (cell_lt hc)]
      exact hc
    · exact (h1.arg (by have := h1.2.2.1; omega)).below hb (Nat.le_refl _)

/-- On the way: the first t digits behind the zeros are letters. -/
def Lett (g J : Nat) (ds lt : List Int) (t : Nat) (w0 wr : World) : Prop :=
  ∃ es, OwnB wr g es ∧ es.length = ds.length ∧ (∀ i, i < t → es.getD (J + i) 0 = lt.getD (ds.getD (J + i) 0).toNat 0) ∧ (∀ i, t ≤ i → es.getD (J + i) 0 = ds.getD (J + i) 0) ∧ Only g w0 wr

theorem Lett.step {g J : Nat} {ds lt : List Int} {t : Nat} {w0 wr : World} (h : Lett g J ds lt t w0 wr) (ht : J + t < ds.length) {x : Int} (hx : x = lt.getD (ds.getD (J + t) 0).toNat 0) : Lett g J ds lt (t + 1) w0 (wr.setCell ⟨g, J + t, none⟩ (.int .u8 x)) := by
  obtain ⟨es, h1, h2, h3, h4, h5⟩ := h
  refine ⟨es.set (J + t) x, h1.set _ _, by simpa using h2, fun i hi => ?_, fun i hi => ?_, h5.trans (Only.set _ _)⟩
  · by_cases e : i = t
    · subst e
      simp [List.getD, show J + i < es.length by omega, hx]
    · have := h3 i (by omega)
      simpa [List.getD, List.getElem?_set, show ¬ t = i by omega] using this
  · have := h4 i (by omega)
    simpa [List.getD, List.getElem?_set, show ¬ t = i by omega] using this

theorem chain' {B : Nat} {a b c : World} (h : Below B a b) (k : Below B b c) : Below B a c := h.trans k

set_option maxRecDepth 100000 in
set_option maxHeartbeats 4000000 in
theorem written_any (p : Option Addr) (n cap : Nat) (za lt : List Int) (V B : Int) (ls : ByteArray) (w : World) (ha : Arg w p n cap za) (hV : Nm.val za = V) (ht : Nm.tsize za ≤ 4096) (h0 : 0 < V) (h2 : 2 ≤ B) (h36 : B ≤ 36) (hls : Str ls lt) (hlt : lt.length = 36) :
    Calls Tryz.prog 109 #[.slice p n cap, .int .u64 B, .string ls] w fun e w' => (∃ s L, e = .returned (.string s) ∧ V < B ^ L ∧ Str s (lets lt (Dn.strip (Dn.dg B L V)))) ∧ Below w.heap.size w w' := by
  have hAs : ShutN (V < Nm.pw 4096) := ⟨by rw [← hV]; exact (Nm.tsize_le_iff ha.2.2.2.2 4096).1 ht⟩
  have HV := hid hV
  have HA := hid ha
  have HT := hid ht
  have HS := hid hls
  have hsz : ls.size = 36 := by rw [hls.size, hlt]
  have GR := hid (group_any B w h2 h36)
  clear ha hV ht hls
  go_enter Tryz.func109, Tryz.ntmps109
  go_wp2_with fail
  refine GR.out.mono ?_
  rintro e w' ⟨⟨W, P, rfl, hP, hW1, hW63, hPl⟩, rfl⟩
  have hP2 : 2 ≤ P := by
    rw [hP, show W = W - 1 + 1 by omega, Int.pow_succ]
    have h1 : 1 ≤ B ^ (W - 1) := by have : 0 < B ^ (W - 1) := Int.pow_pos (by omega); omega
    have h3 := Int.mul_le_mul h1 h2 (by omega) (by omega)
    omega
  have HP := hid hP
  have FU := hid (fromUint_any P w' (by omega) hPl)
  have HPL := hid hPl
  clear GR hP hPl
  go_wp2_with fail
  refine FU.out.mono ?_
  rintro e w1 ⟨r1, os1, rfl, A1, d1⟩
  have SQ := hid (nsquares_any r1 p n cap os1 za P V _ w1 A1 hP2 HPL.out (HA.out.below d1 (Nat.le_refl _)) HV.out HT.out)
  have D1 := hid d1
  clear A1 d1 FU
  go_wp2_with fail
  refine SQ.out.mono ?_
  rintro e w2 ⟨mv, l, rfl, F2⟩
  obtain ⟨pm, cp, hmv, hcp⟩ : ∃ pm cp, mv = .slice pm l.length cp ∧ l.length ≤ cp := by
    rcases F2.out.1.own.2 with ⟨rfl, h0⟩ | ⟨gm, cp, cur, rfl, _, _, h1, _⟩
    · exact ⟨none, 0, by rw [h0], by omega⟩
    · exact ⟨_, cp, rfl, h1⟩
  subst hmv
  obtain ⟨K, HK⟩ : ∃ K, Hid (l.length = K) := ⟨_, rfl⟩
  have hK18 : (K : Int) ≤ 18 := by have := HK.out; have := F2.out.2.2.1; omega
  obtain ⟨L, HL⟩ : ∃ L, Hid (W * 2 ^ K = L) := ⟨_, rfl⟩
  have VL : ShutN (V < B ^ L) := ⟨by
    have h := F2.out.2.1
    rw [HP.out, HK.out, ← Int.pow_mul, HL.out] at h
    exact h⟩
  have D2 := hid (chain D1.out F2.out.2.2.2 (Nat.le_refl _))
  rw [HK.out] at F2 hcp
  rw [HK.out]
  have hL63 : L ≤ 63 * 262144 := by
    have h1 : 2 ^ K ≤ 2 ^ 18 := Nat.pow_le_pow_right (by omega) (by omega)
    have h2 := Nat.mul_le_mul hW63 h1
    have := HL.out
    omega
  have q1 : IntKind.i64.wrap ((W : Int) * 2 ^ K) = (L : Int) := by
    have e : (W : Int) * 2 ^ K = (L : Int) := by rw [← HL.out]; simp
    rw [e, IntKind.wrap_i64]
    omega
  have mk := make8 L (by omega) w2
  have bm : Below w2.heap.size w2 (w2.alloc (.cells (madeCells #[.int .u8 0] L) 5)) := (Below.refl _ _).alloc (Nat.le_refl _) _
  have ob : OwnB (w2.alloc (.cells (madeCells #[.int .u8 0] L) 5)) w2.heap.size (List.replicate L 0) := by rw [made_zero8]; exact OwnB.alloc w2 _
  obtain ⟨w3, hw3⟩ : ∃ w3, w2.alloc (.cells (madeCells #[.int .u8 0] L) 5) = w3 := ⟨_, rfl⟩
  rw [hw3] at mk bm ob
  have D3 := hid (chain D2.out bm (Nat.le_refl _))
  have hzl : 0 < za.length := by
    rcases Nat.eq_zero_or_pos za.length with c | c
    · have := HV.out
      rw [List.eq_nil_of_length_eq_zero c] at this
      simp [Nm.val] at this
      omega
    · exact c
  obtain ⟨g, HG⟩ : ∃ g, Hid (w2.heap.size = g) := ⟨_, rfl⟩
  rw [HG.out] at mk ob
  have PO := F2.out.1.pows HK.out (Nat.le_of_eq HG.out) bm hAs.out
  rw [HP.out] at PO
  have hwg : w'.heap.size ≤ g := by have := D2.out.size; have := HG.out; omega
  have SP := hid (spread_any B W g K cp pm h2 h36 hW1 hW63 (by rw [← HP.out]; exact HPL.out) (by omega) K (Nat.le_refl _) hcp 0 L L n cap p za (List.replicate L 0) V w3 HL.out.symm ob (by simp) (Nat.le_refl _) (by omega) (HA.out.below D3.out (Nat.le_refl _)) (fun a ha => by have := HA.out.2.2.2.1.lt hzl a ha; omega) HV.out VL.out HT.out PO)
  have HWG := hid hwg
  have HW63 := hid hL63
  clear PO bm ob hw3 hcp F2 SQ D1 D2 hwg hL63
  go_wp2_with fail
  refine SP.out.mono ?_
  rintro e w4 ⟨rfl, s4⟩
  obtain ⟨D, hD⟩ : ∃ D, Dn.dg B L V = D := ⟨_, rfl⟩
  have hDl : D.length = L := by rw [← hD]; exact Dn.dg_length B L V
  have O4 : Hid (OwnB w4 g D) := by
    have := s4.1
    rw [hD] at this
    simp only [put, List.take_zero, List.nil_append, hDl, Nat.zero_add, List.drop_replicate, Nat.sub_self, List.replicate_zero, List.append_nil] at this
    exact this
  have N4 := hid s4.2
  have hB0 : 0 < B := by omega
  have DM : Hid (∀ t, 0 ≤ D.getD t 0 ∧ D.getD t 0 < 36) := by
    intro t
    by_cases c : t < D.length
    · have e : D.getD t 0 = D[t] := by simp [List.getD, c]
      have := Dn.dg_mem hB0 L V (D[t]) (by rw [hD]; exact List.getElem_mem c)
      rw [e]
      omega
    · rw [show D.getD t 0 = 0 by simp [List.getD, List.getElem?_eq_none (show D.length ≤ t by omega)]]
      omega
  obtain ⟨J, hJ⟩ : ∃ J, Lead D J := Lead.ex (by
    rw [← hD]
    apply Dn.strip_ne (B := B)
    rw [Dn.tv_dg hB0 L V (by omega) VL.out]
    omega)
  have BT := hid (btrim_any g L J D w4 O4.out hDl hJ)
  have FIN : ShutN (∀ s, Str s (lets lt (D.drop J)) → ∃ s' L, Ending.returned (.string s) = .returned (.string s') ∧ V < B ^ L ∧ Str s' (lets lt (Dn.strip (Dn.dg B L V)))) :=
    ⟨fun s hs => ⟨s, L, rfl, VL.out, by rw [hD, hJ.strip]; exact hs⟩⟩
  have HDL := hid hDl
  have HJL : Hid (J < L) := by show _ < _; have := hJ.lt; omega
  have LE0 : Hid (Lett g J D lt 0 w4 w4) := ⟨D, O4.out, rfl, fun i hi => by omega, fun i _ => rfl, Only.refl _ _⟩
  clear s4 hD hDl hJ SP mk q1 VL O4
  go_wp2_with fail
  refine BT.out.mono ?_
  rintro e w5 ⟨rfl, rfl⟩
  obtain ⟨M, HM⟩ : ∃ M, Hid (L - J = M) := ⟨_, rfl⟩
  rw [HM.out]
  have hM : (M : Int) ≤ 16515072 := by have := HM.out; have := HW63.out; omega
  clear BT
  go_wp2_with fail
  go_loopw [11, 12, 36] (fun _ _ t wr => ∃ j : Nat, t = .int .i64 (j : Int) ∧ j ≤ M ∧ Hid (Lett g J D lt j w5 wr)) (fun _ _ t _ => M - (intOf t).toNat)
  case atStart => exact ⟨0, rfl, Nat.zero_le _, LE0.out⟩
  case round =>
    clear LE0
    obtain ⟨j, rfl, hj, I⟩ := hrel
    by_cases hlt : j < M
    · have hji : (j : Int) < (M : Int) := by omega
      have hJj : J + j < D.length := by have := HDL.out; have := HM.out; omega
      obtain ⟨es, i1, i2, i3, i4, i5⟩ := I.out
      obtain ⟨d, hd, X⟩ : ∃ d, wr.cell? ⟨g, J + j, none⟩ = some (.int .u8 d) ∧ Hid (d = D.getD (J + j) 0) := ⟨_, i1.cell (J + j) (by omega), i4 j (Nat.le_refl _)⟩
      have hfr := i1.free (J + j)
      have hd0 : 0 ≤ d := by rw [X.out]; exact (DM.out _).1
      have hd1 : d < 36 := by rw [X.out]; exact (DM.out _).2
      have ST : Hid (∀ x, x = lt.getD d.toNat 0 → Lett g J D lt (j + 1) w5 (wr.setCell ⟨g, J + j, none⟩ (.int .u8 x))) := fun x hx => I.out.step hJj (by rw [hx, X.out])
      clear i1 i2 i3 i4 i5 I hJj
      go_wp2_with fail
      go_roundw
      case rel => exact ⟨j + 1, by go_num, by omega, ST.out _ (HS.out.at _ _)⟩
      case measure => simp [intOf]; omega
    · obtain rfl : j = M := by omega
      obtain ⟨es, i1, i2, i3, i4, i5⟩ := I.out
      have hxl : (lets lt (D.drop J)).length = j := by simp [lets]; have := HDL.out; have := HM.out; omega
      have CV := run_convert_bytes_arg (P := Tryz.prog) wr 38 5 Tryz.underlying38 Tryz.underlying5 g J j j (lets lt (D.drop J)) hxl (fun i hi => by
        rw [i1.cell (J + i) (by have := HDL.out; have := HM.out; omega), i3 i hi]
        simp [lets, List.getD, List.getElem?_eq_getElem (show J + i < D.length by have := HDL.out; have := HM.out; omega)]) 9 Tryz.underlying9
      have FS := FIN.out _ (Str.of_nums (xs := lets lt (D.drop J)) (fun x hx => by
        obtain ⟨d, _, rfl⟩ := List.mem_map.1 hx
        exact HS.out.atb _))
      have D6 : Hid (Below w'.heap.size w' wr) := chain' D3.out ((N4.out.trans i5).below HWG.out D3.out.size)
      have HFS := hid FS
      clear i1 i2 i3 i4 i5 I hxl FS
      go_wp2_with fail
      go_ret
      exact ⟨HFS.out, D6.out⟩
end Go.Proofs.YtjkefcikepnbpaaGreatDoor

namespace Go.Proofs.YtjkefcikepnbpaaGreatDoor
open Go.RowKit Go.Deep

def smallL : List Int := [48, 49, 50, 51, 52, 53, 54, 55, 56, 57, 97, 98, 99, 100, 101, 102, 103, 104, 105, 106, 107, 108, 109, 110, 111, 112, 113, 114, 115, 116, 117, 118, 119, 120, 121, 122]
def capL : List Int := [48, 49, 50, 51, 52, 53, 54, 55, 56, 57, 65, 66, 67, 68, 69, 70, 71, 72, 73, 74, 75, 76, 77, 78, 79, 80, 81, 82, 83, 84, 85, 86, 87, 88, 89, 90]
def lettersOf (up : Bool) : List Int := if up then capL else smallL

/-- What InBase tells. -/
inductive InIs (zs : List Int) (B : Int) (up : Bool) : List Int → Int → Prop
  | big : 4096 < Nm.tsize zs → InIs zs B up [] 2
  | base : Nm.tsize zs ≤ 4096 → (B < 2 ∨ 36 < B) → InIs zs B up [] 32
  | zero : Nm.tsize zs = 0 → 2 ≤ B → B ≤ 36 → InIs zs B up [48] 0
  | ok (L : Nat) : 0 < Nm.tsize zs → Nm.tsize zs ≤ 4096 → 2 ≤ B → B ≤ 36 → Nm.val zs < B ^ L → InIs zs B up (lets (lettersOf up) (Dn.strip (Dn.dg B L (Nm.val zs)))) 0

theorem blen_big {zs : List Int} (hl : Nm.Limbs zs) : ∃ L : Nat, blen zs = (L : Int) ∧ (262144 < (L : Int) ↔ 4096 < Nm.tsize zs) ∧ ((L : Int) = 0 ↔ Nm.tsize zs = 0) := by
  obtain ⟨L, l1, l2, l3, l4⟩ := blen_is zs hl
  refine ⟨L, l1, ?_, ?_⟩
  · by_cases h : 0 < Nm.tsize zs
    · have := l4 h
      omega
    · omega
  · by_cases h : 0 < Nm.tsize zs
    · have := l4 h
      omega
    · omega

set_option maxRecDepth 100000 in
set_option maxHeartbeats 4000000 in
theorem inBase_any (p : Option Addr) (n cap : Nat) (za : List Int) (B : Int) (up : Bool) (w : World) (ha : Arg w p n cap za) (hB0 : -9223372036854775808 ≤ B) (hB1 : B ≤ 9223372036854775807) :
    Calls Tryz.prog 79 #[.slice p n cap, .int .i64 B, .bool up] w fun e w' => ∃ s xs E, e = .returned (.tuple #[.string s, .int .i64 E]) ∧ Str s xs ∧ InIs za B up xs E ∧ Below w.heap.size w w' := by
  obtain ⟨L, hL, hbig, hzero⟩ := blen_big ha.2.2.2.2
  have BL := hid (bitLen_isT L p n cap za w ha hL)
  have Z : Hid (Str ⟨#[]⟩ []) := rfl
  by_cases h1 : 4096 < Nm.tsize za
  · have hLi : (262144 : Int) < (L : Int) := hbig.2 h1
    have F : Hid (InIs za B up [] 2) := .big h1
    clear ha hL hbig hzero h1
    go_enter Tryz.func79, Tryz.ntmps79
    go_wp2_with fail
    refine BL.out.mono ?_
    rintro e w' ⟨rfl, rfl⟩
    go_wp2_with fail
    go_ret2
    exact ⟨_, _, _, rfl, Z.out, F.out, Below.refl _ _⟩
  have hLi : (L : Int) ≤ 262144 := by have := hbig.1; omega
  by_cases h2 : B < 2 ∨ 36 < B
  · have F : Hid (InIs za B up [] 32) := .base (by omega) h2
    clear ha hL hbig hzero h1
    rcases h2 with h2 | h2
    · go_enter Tryz.func79, Tryz.ntmps79
      go_wp2_with fail
      refine BL.out.mono ?_
      rintro e w' ⟨rfl, rfl⟩
      go_wp2_with fail
      go_ret2
      exact ⟨_, _, _, rfl, Z.out, F.out, Below.refl _ _⟩
    · go_enter Tryz.func79, Tryz.ntmps79
      go_wp2_with fail
      refine BL.out.mono ?_
      rintro e w' ⟨rfl, rfl⟩
      go_wp2_with fail
      go_ret2
      exact ⟨_, _, _, rfl, Z.out, F.out, Below.refl _ _⟩
  have h3 : 2 ≤ B := by omega
  have h4 : B ≤ 36 := by omega
  by_cases h5 : Nm.tsize za = 0
  · have F : Hid (InIs za B up [48] 0) := .zero h5 h3 h4
    have Z2 : Hid (Str ⟨#[48]⟩ [48]) := rfl
    have hL0 : (L : Int) = 0 := hzero.2 h5
    obtain rfl : L = 0 := by omega
    clear ha hL hbig hzero h1 h2 h5
    go_enter Tryz.func79, Tryz.ntmps79
    go_wp2_with fail
    refine BL.out.mono ?_
    rintro e w' ⟨rfl, rfl⟩
    go_wp2_with fail
    refine BL.out.mono ?_
    rintro e w' ⟨rfl, rfl⟩
    go_wp2_with fail
    go_ret2
    exact ⟨_, _, _, rfl, Z2.out, F.out, Below.refl _ _⟩
  · have hL0 : ((L : Int) == 0) = false := by rw [beq_eq_false_iff_ne]; intro c; exact h5 (hzero.1 c)
    have hv : 0 < Nm.val za := by
      have e1 := Nm.tsize_zero_iff ha.2.2.2.2
      have e2 := (Nm.val_bd za ha.2.2.2.2).1
      omega
    have F : Hid (∀ s L, Nm.val za < B ^ L → Str s (lets (lettersOf up) (Dn.strip (Dn.dg B L (Nm.val za)))) → ∃ s' xs E, Ending.returned (.tuple #[.string s, .int .i64 0]) = .returned (.tuple #[.string s', .int .i64 E]) ∧ Str s' xs ∧ InIs za B up xs E) := fun s L hl hs => ⟨s, _, 0, rfl, hs, .ok L (by omega) (by omega) h3 h4 hl⟩
    have WR : Hid (∀ ls, Str ls (lettersOf up) → Calls Tryz.prog 109 #[.slice p n cap, .int .u64 B, .string ls] w fun e w' => (∃ s L, e = .returned (.string s) ∧ Nm.val za < B ^ L ∧ Str s (lets (lettersOf up) (Dn.strip (Dn.dg B L (Nm.val za))))) ∧ Below w.heap.size w w') :=
      fun ls hls => written_any p n cap za (lettersOf up) _ B ls w ha rfl (by omega) hv h3 h4 hls (by cases up <;> rfl)
    clear ha hL hbig hzero h1 h2 h5 hv
    cases up with
    | true =>
      have W2 := hid (WR.out ⟨#[48, 49, 50, 51, 52, 53, 54, 55, 56, 57, 65, 66, 67, 68, 69, 70, 71, 72, 73, 74, 75, 76, 77, 78, 79, 80, 81, 82, 83, 84, 85, 86, 87, 88, 89, 90]⟩ rfl)
      go_enter Tryz.func79, Tryz.ntmps79
      go_wp2_with fail
      refine BL.out.mono ?_
      rintro e w' ⟨rfl, rfl⟩
      go_wp2_with fail
      refine BL.out.mono ?_
      rintro e w' ⟨rfl, rfl⟩
      go_wp2_with fail
      refine W2.out.mono ?_
      rintro e w1 ⟨⟨s, M, rfl, hM, hs⟩, d1⟩
      have G := hid (F.out s M hM hs)
      have D := hid d1
      clear hM hs d1
      go_wp2_with fail
      go_ret2
      obtain ⟨s', xs, E, k1, k2, k3⟩ := G.out
      exact ⟨s', xs, E, k1, k2, k3, D.out⟩
    | false =>
      have W2 := hid (WR.out ⟨#[48, 49, 50, 51, 52, 53, 54, 55, 56, 57, 97, 98, 99, 100, 101, 102, 103, 104, 105, 106, 107, 108, 109, 110, 111, 112, 113, 114, 115, 116, 117, 118, 119, 120, 121, 122]⟩ rfl)
      go_enter Tryz.func79, Tryz.ntmps79
      go_wp2_with fail
      refine BL.out.mono ?_
      rintro e w' ⟨rfl, rfl⟩
      go_wp2_with fail
      refine BL.out.mono ?_
      rintro e w' ⟨rfl, rfl⟩
      go_wp2_with fail
      refine W2.out.mono ?_
      rintro e w1 ⟨⟨s, M, rfl, hM, hs⟩, d1⟩
      have G := hid (F.out s M hM hs)
      have D := hid d1
      clear hM hs d1
      go_wp2_with fail
      go_ret2
      obtain ⟨s', xs, E, k1, k2, k3⟩ := G.out
      exact ⟨s', xs, E, k1, k2, k3, D.out⟩
end Go.Proofs.YtjkefcikepnbpaaGreatDoor

namespace Go.Proofs.YtjkefcikepnbpaaGreatDoor
open Go Go.RowKit Go.Deep

theorem fp10_pw {j : Nat} (h : j ≤ 20000) : (10 : Int) ^ j < Nm.pw 4096 := by
  have h1 := Nat.pow_le_pow_left (show 10 ≤ 2 ^ 4 by decide) j
  rw [← Nat.pow_mul] at h1
  have e1 : ((10 ^ j : Nat) : Int) = 10 ^ j := by simp
  have e2 : ((2 ^ (4 * j) : Nat) : Int) = 2 ^ (4 * j) := by simp
  have h3 : (2 : Int) ^ (4 * j) < 2 ^ 262144 := by
    have h4 := Nm.two_mono (show 4 * j + 1 ≤ 262144 by omega)
    have h5 : (2 : Int) ^ (4 * j + 1) = 2 ^ (4 * j) * 2 := Int.pow_succ _ _
    have h6 : (0 : Int) < 2 ^ (4 * j) := Int.pow_pos (by omega)
    generalize (2 : Int) ^ 262144 = a at *
    omega
  rw [fpw_4096]
  omega

theorem f5_10 (n : Nat) : (5 : Int) ^ n ≤ 10 ^ n := by
  have h1 := Nat.pow_le_pow_left (show 5 ≤ 10 by decide) n
  have e1 : ((10 ^ n : Nat) : Int) = 10 ^ n := by simp
  have e2 : ((5 ^ n : Nat) : Int) = 5 ^ n := by simp
  omega
theorem f2_10 (n : Nat) : (2 : Int) ^ n ≤ 10 ^ n := by
  have h1 := Nat.pow_le_pow_left (show 2 ≤ 10 by decide) n
  have e1 : ((10 ^ n : Nat) : Int) = 10 ^ n := by simp
  have e2 : ((2 ^ n : Nat) : Int) = 2 ^ n := by simp
  omega

theorem fpow5_ok (k : Int) (n : Nat) (w : World) (hk : k = (n : Int)) (hn : n ≤ 20000) :
    Calls Tryz.prog 64 #[.int .i64 k] w fun e w' => ∃ r os, e = .returned (.tuple #[.slice r (List.length os) (List.length os), .int .i64 0]) ∧ Ans w.heap.size w' r os (5 ^ n) ∧ Below w.heap.size w w' := by
  refine (pow5_gives k n w hk (by omega)).mono ?_
  rintro e w' ⟨⟨_, r, os, rfl, A⟩ | ⟨h, _⟩, hB⟩
  · exact ⟨r, os, rfl, A, hB⟩
  · exact absurd (Int.lt_of_le_of_lt (f5_10 n) (fp10_pw hn)) (Int.not_lt.2 h)

/-- s writes T in base 10. -/
structure DigT (T : Int) (s : ByteArray) (xs : List Int) : Prop where
  str : Str s xs
  digs : Digs xs
  val : dv xs = T
  head : xs.getD 0 0 ≠ 48
  ne : xs ≠ []
  len : xs.length ≤ 3000

theorem small_dig : ∀ d : Int, 0 ≤ d → d < 10 → (lettersOf false).getD d.toNat 0 = d + 48 := by
  intro d h0 h1
  obtain ⟨n, rfl⟩ := Int.eq_ofNat_of_zero_le h0
  have : n < 10 := by omega
  match n, this with
  | 0, _ => rfl
  | 1, _ => rfl
  | 2, _ => rfl
  | 3, _ => rfl
  | 4, _ => rfl
  | 5, _ => rfl
  | 6, _ => rfl
  | 7, _ => rfl
  | 8, _ => rfl
  | 9, _ => rfl

theorem dig_lets {T : Int} {L K : Nat} {s : ByteArray} (h0 : 0 < T) (hL : T < 10 ^ L) (hK : K ≤ 2000) (hb : T < 10 ^ K) (hs : Str s (lets (lettersOf false) (Dn.strip (Dn.dg 10 L T)))) : DigT T s (lets (lettersOf false) (Dn.strip (Dn.dg 10 L T))) := by
  have mem : ∀ d ∈ Dn.strip (Dn.dg 10 L T), 0 ≤ d ∧ d < 10 := fun d hd => Dn.dg_mem (by omega) L T d (Dn.strip_mem hd)
  have e : lets (lettersOf false) (Dn.strip (Dn.dg 10 L T)) = (Dn.strip (Dn.dg 10 L T)).map (fun d => d + 48) := List.map_congr_left fun d hd => small_dig d (mem d hd).1 (mem d hd).2
  have v : Dn.tv 10 0 (Dn.strip (Dn.dg 10 L T)) = T := by rw [Dn.tv_strip]; exact Dn.tv_dg (by omega) L T (by omega) hL
  have ne : Dn.strip (Dn.dg 10 L T) ≠ [] := by
    intro c
    rw [c] at v
    simp [Dn.tv] at v
    omega
  have dg : Digs (lets (lettersOf false) (Dn.strip (Dn.dg 10 L T))) := by
    rw [e]
    intro d hd
    obtain ⟨x, hx, rfl⟩ := List.mem_map.1 hd
    have := mem x hx
    omega
  have dvT : dv (lets (lettersOf false) (Dn.strip (Dn.dg 10 L T))) = T := by
    rw [e]
    unfold dv
    rw [List.map_map, show ((fun d : Int => d - 48) ∘ fun d => d + 48) = id from funext fun d => by simp, List.map_id]
    exact v
  have hd : (lets (lettersOf false) (Dn.strip (Dn.dg 10 L T))).getD 0 0 ≠ 48 := by
    rw [e]
    match hm : Dn.strip (Dn.dg 10 L T), ne with
    | x :: ys, _ =>
      have := Dn.strip_head hm
      simp
      omega
  have nn : lets (lettersOf false) (Dn.strip (Dn.dg 10 L T)) ≠ [] := by rw [e]; simpa using ne
  refine ⟨hs, dg, dvT, hd, nn, ?_⟩
  obtain ⟨n, hn⟩ : ∃ n, (lets (lettersOf false) (Dn.strip (Dn.dg 10 L T))).length = n + 1 := ⟨(lets (lettersOf false) (Dn.strip (Dn.dg 10 L T))).length - 1, by have := List.length_pos_iff.2 nn; omega⟩
  have := Fx.head_low dg hn hd
  rw [dvT] at this
  have := Fx.p_lt (a := n) (b := K) (Int.lt_of_le_of_lt this hb)
  omega

set_option maxRecDepth 100000 in
theorem fdigits_any (p : Option Addr) (os : List Int) (B : Nat) (T : Int) (w : World) (K : Nat) (A : Ans B w p os T) (h0 : 0 < T) (hK : K ≤ 2000) (hb : T < 10 ^ K) :
    Calls Tryz.prog 59 #[.slice p (List.length os) (List.length os)] w fun e w' => ∃ s xs, e = .returned (.tuple #[.string s, .int .i64 0]) ∧ DigT T s xs ∧ Below w.heap.size w w' := by
  have hp : T < Nm.pw 4096 := Int.lt_trans hb (fp10_pw (by omega))
  have IB : Hid (Calls Tryz.prog 79 #[.slice p (List.length os) (List.length os), .int .i64 10, .bool false] w fun e w' => ∃ s xs, e = .returned (.tuple #[.string s, .int .i64 0]) ∧ DigT T s xs ∧ Below w.heap.size w w') := by
    refine (inBase_any p _ _ os 10 false w (A.argT hp) (by omega) (by omega)).mono ?_
    rintro e w' ⟨s, xs, E, rfl, hs, h, hB⟩
    have ts := A.tsT hp
    have hv : Nm.val os = T := A.2.2.2.1
    cases h with
    | big c => omega
    | base _ c => omega
    | zero c _ _ =>
      have := (Nm.tsize_zero_iff A.2.1).1 c
      omega
    | ok L c1 c2 c3 c4 c5 =>
      rw [hv] at c5 hs
      exact ⟨s, _, rfl, dig_lets h0 c5 hK hb hs, hB⟩
  clear A h0 hb hp hK
  go_enter Tryz.func59, Tryz.ntmps59
  go_wp2_with fail
  refine IB.out.mono ?_
  rintro e w' ⟨s, xs, rfl, D, hB⟩
  have HD := hid (And.intro D hB)
  clear D hB IB
  go_wp2_with fail
  go_ret2
  exact ⟨s, xs, rfl, HD.out.1, HD.out.2⟩
end Go.Proofs.YtjkefcikepnbpaaGreatDoor

namespace Go.Proofs.YtjkefcikepnbpaaGreatDoor
open Go Go.RowKit Go.Deep

set_option maxRecDepth 100000 in
theorem zfinite_any (d : Int) (w : World) (h0 : 0 ≤ d) (h1 : d < 18446744073709551616) :
    Calls Tryz.prog 24 #[.int .u64 d] w fun e w' => e = .returned (.bool (Ie.fnt d)) ∧ w' = w := by
  have C := hid (class_any d w h0 h1)
  have E : Hid (Ie.fnt d = decide (Ie.cls d < 3)) := rfl
  generalize Ie.cls d = c at *
  go_enter Tryz.func24, Tryz.ntmps24
  go_wp2_with fail
  refine C.out.mono ?_
  rintro e w' ⟨rfl, rfl⟩
  go_wp2_with fail
  go_ret
  exact ⟨fretB E.out.symm, rfl⟩

/-- The sign bit. -/
def Sh.ng (d : Int) : Bool := decide (9223372036854775808 ≤ d)
theorem zand_sign (d : Int) (h0 : 0 ≤ d) (h1 : d < 18446744073709551616) : (bits .and .u64 d 9223372036854775808 != 0) = Sh.ng d := by
  unfold Sh.ng
  rw [Ib.sign_and d h0 h1]
  rcases (show d < 9223372036854775808 ∨ 9223372036854775808 ≤ d by omega) with c | c
  · have e : d / 9223372036854775808 = 0 := by omega
    rw [e]
    simp
    omega
  · have e : d / 9223372036854775808 = 1 := by omega
    rw [e]
    simp [c]

set_option maxRecDepth 100000 in
theorem znegative_any (d : Int) (w : World) (h0 : 0 ≤ d) (h1 : d < 18446744073709551616) :
    Calls Tryz.prog 29 #[.int .u64 d] w fun e w' => e = .returned (.bool (Sh.ng d)) ∧ w' = w := by
  have AS := zand_sign d h0 h1
  generalize Sh.ng d = n at *
  go_enter Tryz.func29, Tryz.ntmps29
  go_wp2_with fail
  go_ret
  exact ⟨rfl, rfl⟩

/-- s writes T in base 10, zero too. -/
structure DigZ (T : Int) (s : ByteArray) (xs : List Int) : Prop where
  str : Str s xs
  digs : Digs xs
  val : dv xs = T
  ne : xs ≠ []
  len : xs.length ≤ 3000

set_option maxRecDepth 100000 in
theorem zdigits_any (p : Option Addr) (os : List Int) (B : Nat) (T : Int) (w : World) (K : Nat) (A : Ans B w p os T) (h0 : 0 ≤ T) (hK : K ≤ 2000) (hb : T < 10 ^ K) :
    Calls Tryz.prog 59 #[.slice p (List.length os) (List.length os)] w fun e w' => ∃ s xs, e = .returned (.tuple #[.string s, .int .i64 0]) ∧ DigZ T s xs ∧ Below w.heap.size w w' := by
  rcases (show 0 < T ∨ T = 0 by omega) with hT | hT
  · refine (fdigits_any p os B T w K A hT hK hb).mono ?_
    rintro e w' ⟨s, xs, rfl, D, hB⟩
    exact ⟨s, xs, rfl, ⟨D.str, D.digs, D.val, D.ne, D.len⟩, hB⟩
  · subst hT
    have hp : (0 : Int) < Nm.pw 4096 := Int.lt_of_le_of_lt (Int.le_of_lt (show (0 : Int) < 10 ^ 0 by decide)) (fp10_pw (by omega))
    have IB : Hid (Calls Tryz.prog 79 #[.slice p (List.length os) (List.length os), .int .i64 10, .bool false] w fun e w' => ∃ s xs, e = .returned (.tuple #[.string s, .int .i64 0]) ∧ DigZ 0 s xs ∧ Below w.heap.size w w') := by
      refine (inBase_any p _ _ os 10 false w (A.argT hp) (by omega) (by omega)).mono ?_
      rintro e w' ⟨s, xs, E, rfl, hs, h, hB⟩
      have ts := A.tsT hp
      have hv : Nm.val os = 0 := A.2.2.2.1
      have hz : Nm.tsize os = 0 := (Nm.tsize_zero_iff A.2.1).2 hv
      cases h with
      | big c => omega
      | base _ c => omega
      | zero c _ _ => exact ⟨s, _, rfl, ⟨hs, fun d hd => by simp at hd; omega, rfl, by simp, by simp⟩, hB⟩
      | ok L c1 c2 c3 c4 c5 => omega
    clear A hb hp hK h0
    go_enter Tryz.func59, Tryz.ntmps59
    go_wp2_with fail
    refine IB.out.mono ?_
    rintro e w' ⟨s, xs, rfl, D, hB⟩
    have HD := hid (And.intro D hB)
    clear D hB IB
    go_wp2_with fail
    go_ret2
    exact ⟨s, xs, rfl, HD.out.1, HD.out.2⟩

set_option maxRecDepth 100000 in
set_option maxHeartbeats 2000000 in
theorem znormal_any (s : ByteArray) (xs : List Int) (q : Int) (w : World) (hs : Str s xs) (hd : Digs xs) (hn : xs ≠ []) (h0 : -1075 ≤ q) (h1 : q ≤ 100000) (hl : xs.length ≤ 100000) :
    Calls Tryz.prog 47 #[.string s, .int .i64 q] w fun r w' => ∃ v, r = .returned v ∧ DecIs v (Sh.dd (dv xs * 10 ^ (q + 1075).toNat)) ∧ Below w.heap.size w w' := by
  have NO := hid (fun wx : World => norm_any false s xs q wx hs (by omega))
  have E0 : Hid (errOf xs q = 0 ∧ nmd false xs q = Sh.dd (dv xs * 10 ^ (q + 1075).toNat)) := by
    have i := Sh.isdec hd hn h0 h1 hl
    refine ⟨by rw [errOf, if_pos i], ?_⟩
    rw [nmd, if_pos i]
    exact Sh.nrm_dd hd h0
  have Z := FR3.new w (.bool false) (.string ⟨#[]⟩) (.int .i64 0)
  have ZB := hid (alloc_b w (.cells #[.bool false, .string ⟨#[]⟩, .int .i64 0] 25))
  have HZ : Hid (FR3 (w.alloc (.cells #[.bool false, .string ⟨#[]⟩, .int .i64 0] 25)) w.heap.size (.bool false) (.string ⟨#[]⟩) (.int .i64 0) ∧ w.heap.size < (w.alloc (.cells #[.bool false, .string ⟨#[]⟩, .int .i64 0] 25)).heap.size) := ⟨Z, Z.lt⟩
  unfold NormTold decV at NO
  rw [E0.out.1, E0.out.2] at NO
  clear E0 Z hs hd hn h0 h1 hl
  generalize Sh.dd (dv xs * 10 ^ (q + 1075).toNat) = DD at *
  go_enter Tryz.func47, Tryz.ntmps47
  go_wp2_with fail
  refine (NO.out _).mono ?_
  rintro e w1 ⟨v, rfl, ⟨t, hv, ht⟩, hB⟩
  unfold decV at hv
  subst hv
  have R6 := hid (HZ.out.1.below (hB.trans ((alloc_b w1 (.cells #[.bool DD.neg, .string t, .int .i64 DD.e] 25)).mono hB.size)) HZ.out.2)
  have HB6 := hid (ZB.out.trans ((hB.trans ((alloc_b w1 (.cells #[.bool DD.neg, .string t, .int .i64 DD.e] 25)).mono hB.size)).mono ZB.out.size))
  obtain ⟨⟨c0, c1, c2⟩, f0, f1, f2⟩ := R6.out.cells
  have G6 : Hid (∃ v, Ending.returned (.agg #[.bool DD.neg, .string t, .int .i64 DD.e]) = .returned v ∧ DecIs v DD) := ⟨_, rfl, t, rfl, ht⟩
  clear ht NO hB HZ ZB
  go_wp2_with fail
  (try simp only [Exit.inBlock, Exit.then])
  refine bodyPost_ret (results_cell_row rfl _ _ w.heap.size 25 _ (0, 0) _ rfl (R6.out.put _ _ _) Tryz.underlying25 rfl (by kernel_rfl)) rfl ?_
  obtain ⟨v, h1, h2⟩ := G6.out
  exact ⟨v, h1, h2, fset3_below HB6.out (Nat.le_refl _)⟩

theorem zroom {q : Int} {n k : Nat} (q1 : q < 18014398509481984) : q * 2 ^ k * 5 ^ n < 10 ^ (20 + n + k) := by
  have h1 := f5_10 n
  have h2 := f2_10 k
  have p1 : (0 : Int) < 5 ^ n := Int.pow_pos (by omega)
  have p2 : (0 : Int) < 2 ^ k := Int.pow_pos (by omega)
  have p3 : (0 : Int) < 10 ^ n := Int.pow_pos (by omega)
  have a1 : q * 2 ^ k * 5 ^ n ≤ 18014398509481984 * 2 ^ k * 5 ^ n := Int.mul_le_mul_of_nonneg_right (Int.mul_le_mul_of_nonneg_right (Int.le_of_lt q1) (Int.le_of_lt p2)) (Int.le_of_lt p1)
  have a2 : 18014398509481984 * 2 ^ k * 5 ^ n ≤ 18014398509481984 * 10 ^ k * (10 : Int) ^ n := Int.mul_le_mul (Int.mul_le_mul_of_nonneg_left h2 (by omega)) h1 (Int.le_of_lt p1) (Int.mul_nonneg (by omega) (Int.le_of_lt (Int.pow_pos (by omega))))
  have a3 : 18014398509481984 * 10 ^ k * (10 : Int) ^ n < 100000000000000000000 * 10 ^ k * 10 ^ n := Int.mul_lt_mul_of_pos_right (Int.mul_lt_mul_of_pos_right (by omega) (Int.pow_pos (by omega))) p3
  rw [Int.pow_add, Int.pow_add, show (10 : Int) ^ 20 = 100000000000000000000 by decide, Int.mul_assoc 100000000000000000000, Int.mul_comm ((10 : Int) ^ n) (10 ^ k), ← Int.mul_assoc]
  omega

/-- The number in units. -/
theorem zunits {m e : Int} (h0 : -1075 ≤ e) : m * 2 ^ e.toNat * 5 ^ (-e).toNat * 10 ^ (min e 0 + 1075).toNat = m * 2 ^ (e + 1075).toNat * Sh.T5 := by
  unfold Sh.T5
  rcases (show 0 ≤ e ∨ e < 0 by omega) with c | c
  · rw [show (-e).toNat = 0 by omega, show (min e 0 + 1075).toNat = 1075 by omega, show (e + 1075).toNat = e.toNat + 1075 by omega, Int.pow_zero, Int.mul_one, Int.pow_add]
    generalize 1075 = z
    rw [show (10 : Int) = 2 * 5 from rfl, Int.mul_pow]
    generalize (5 : Int) ^ z = x1
    generalize (2 : Int) ^ z = x2
    generalize (2 : Int) ^ e.toNat = x3
    ac_rfl
  · obtain ⟨n, hn⟩ : ∃ n : Nat, (-e).toNat = n := ⟨_, rfl⟩
    obtain ⟨k, hk⟩ : ∃ k : Nat, (e + 1075).toNat = k := ⟨_, rfl⟩
    have e1 : 1075 = n + k := by omega
    rw [show e.toNat = 0 by omega, show (min e 0 + 1075).toNat = k by omega, hn, hk, Int.pow_zero, Int.mul_one]
    conv => rhs; rw [e1]
    rw [Int.pow_add, show (10 : Int) = 2 * 5 from rfl, Int.mul_pow]
    generalize (5 : Int) ^ n = x1
    generalize (5 : Int) ^ k = x2
    generalize (2 : Int) ^ k = x3
    ac_rfl

set_option maxRecDepth 100000 in
set_option maxHeartbeats 4000000 in
theorem zexact_any (m e : Int) (w : World) (h0 : 0 ≤ m) (h1 : m < 18014398509481984) (e0 : -1075 ≤ e) (e1 : e ≤ 971) :
    Calls Tryz.prog 44 #[.int .u64 m, .int .i64 e] w fun r w' => ∃ v, r = .returned v ∧ DecIs v (Sh.dd (m * 2 ^ (e + 1075).toNat * Sh.T5)) ∧ Below w.heap.size w w' := by
  have FU := hid (fun (wx : World) => fromUint_any m wx h0 (by omega))
  obtain ⟨k, hk⟩ : ∃ k : Nat, e.toNat = k := ⟨_, rfl⟩
  obtain ⟨n, hn⟩ : ∃ n : Nat, (-e).toNat = n := ⟨_, rfl⟩
  have PW := hid (fun (wx : World) => fpow5_ok (n : Int) n wx rfl (by omega))
  have rT := zroom (q := m) (n := n) (k := k) h1
  have tp : (0 : Int) < 2 ^ k := Int.pow_pos (by omega)
  have fp : (0 : Int) < 5 ^ n := Int.pow_pos (by omega)
  have r1 : m * 2 ^ k < Nm.pw 4096 := by
    have := zroom (q := m) (n := 0) (k := k) h1
    rw [Int.pow_zero, Int.mul_one] at this
    exact Int.lt_trans this (fp10_pw (by omega))
  have r5 : (5 : Int) ^ n < Nm.pw 4096 := Int.lt_of_le_of_lt (f5_10 n) (fp10_pw (by omega))
  have SH : Hid (∀ (wx : World) (p : Option Addr) (os : List Int) (B : Nat), Ans B wx p os m → Calls Tryz.prog 58 #[.slice p (List.length os) (List.length os), .int .i64 (k : Int)] wx fun e w' => ∃ r os, e = .returned (.tuple #[.slice r (List.length os) (List.length os), .int .i64 0]) ∧ Ans wx.heap.size w' r os (m * 2 ^ k) ∧ Below wx.heap.size wx w') := by
    intro wx p os B A
    have rm : m < Nm.pw 4096 := Int.lt_trans (show m < 10 ^ 20 by rw [show (10 : Int) ^ 20 = 100000000000000000000 by decide]; omega) (fp10_pw (by omega))
    have s := fshl_any p _ _ os (k : Int) k wx (A.argT rm) (A.tsT rm) rfl (by rw [A.2.2.2.1]; exact r1)
    rw [A.2.2.2.1] at s
    exact s
  have MU : Hid (∀ (wx : World) (p r : Option Addr) (os zs : List Int), (∃ B, Ans B wx p os (m * 2 ^ k)) → (∃ B, Ans B wx r zs (5 ^ n)) → Calls Tryz.prog 65 #[.slice p (List.length os) (List.length os), .slice r (List.length zs) (List.length zs)] wx fun e w' => ∃ r os, e = .returned (.tuple #[.slice r (List.length os) (List.length os), .int .i64 0]) ∧ Ans wx.heap.size w' r os (m * 2 ^ k * 5 ^ n) ∧ Below wx.heap.size wx w') := by
    rintro wx p r os zs ⟨B, A⟩ ⟨B', A'⟩
    have s := mul_ok p r _ _ _ _ os zs wx (A.argT r1) (A'.argT r5) (A.tsT r1) (A'.tsT r5) (by rw [A.2.2.2.1, A'.2.2.2.1]; exact Int.lt_trans rT (fp10_pw (by omega)))
    rw [A.2.2.2.1, A'.2.2.2.1] at s
    exact s
  have DG : Hid (∀ (wx : World) (r : Option Addr) (zs : List Int) (B : Nat), Ans B wx r zs (m * 2 ^ k * 5 ^ n) → Calls Tryz.prog 59 #[.slice r (List.length zs) (List.length zs)] wx fun e w' => ∃ s xs, e = .returned (.tuple #[.string s, .int .i64 0]) ∧ DigZ (m * 2 ^ k * 5 ^ n) s xs ∧ Below wx.heap.size wx w') :=
    fun wx r zs B A => zdigits_any r zs B _ wx (20 + n + k) A (Int.mul_nonneg (Int.mul_nonneg h0 (Int.le_of_lt tp)) (Int.le_of_lt fp)) (by omega) rT
  have NM : Hid (∀ (wx : World) (s : ByteArray) (xs : List Int), DigZ (m * 2 ^ k * 5 ^ n) s xs → Calls Tryz.prog 47 #[.string s, .int .i64 (min e 0)] wx fun r w' => ∃ v, r = .returned v ∧ DecIs v (Sh.dd (m * 2 ^ (e + 1075).toNat * Sh.T5)) ∧ Below wx.heap.size wx w') := by
    intro wx s xs D
    have h := znormal_any s xs (min e 0) wx D.str D.digs D.ne (by omega) (by omega) (by have := D.len; omega)
    rw [D.val, ← hk, ← hn, zunits e0] at h
    exact h
  have Z := FR3.new w (.bool false) (.string ⟨#[]⟩) (.int .i64 0)
  have ZB := hid (alloc_b w (.cells #[.bool false, .string ⟨#[]⟩, .int .i64 0] 25))
  have HZ : Hid (FR3 (w.alloc (.cells #[.bool false, .string ⟨#[]⟩, .int .i64 0] 25)) w.heap.size (.bool false) (.string ⟨#[]⟩) (.int .i64 0) ∧ w.heap.size < (w.alloc (.cells #[.bool false, .string ⟨#[]⟩, .int .i64 0] 25)).heap.size) := ⟨Z, Z.lt⟩
  have mk : m * 2 ^ k = m * 2 ^ k := rfl
  generalize Sh.dd (m * 2 ^ (e + 1075).toNat * Sh.T5) = DD at *
  generalize m * 2 ^ k * 5 ^ n = T at *
  clear rT tp fp r1 r5 Z h0 mk
  rcases (show 0 < e ∨ e ≤ 0 by omega) with c | c
  · have hke : e = (k : Int) := by omega
    have hn0 : n = 0 := by omega
    subst hke
    subst hn0
    rw [show min (k : Int) 0 = 0 by omega] at NM
    rw [show ((0 : Nat) : Int) = 0 from rfl] at PW
    clear hk hn e0
    go_enter Tryz.func44, Tryz.ntmps44
    go_wp2_with fail
    refine (FU.out _).mono ?_
    rintro e w1 ⟨p, os, rfl, A1, B1⟩
    have S1 := hid (SH.out _ _ _ _ A1)
    have HB1 := hid B1
    clear A1 B1 SH FU
    go_wp2_with fail
    refine S1.out.mono ?_
    rintro e w2 ⟨r2, z2, rfl, A2, B2⟩
    have SA : Hid (∀ wx, Below w2.heap.size w2 wx → ∃ B, Ans B wx r2 z2 (m * 2 ^ k)) := fun wx h => ⟨_, A2.below h (Nat.le_refl _)⟩
    have HB2 := hid (HB1.out.trans (B2.mono HB1.out.size))
    clear A2 B2 S1 HB1
    go_wp2_with fail
    refine (PW.out _).mono ?_
    rintro e w3 ⟨r3, z3, rfl, A3, B3⟩
    have M3 := hid (MU.out _ _ _ _ _ (SA.out _ B3) ⟨_, A3⟩)
    have HB3 := hid (HB2.out.trans (B3.mono HB2.out.size))
    clear A3 B3 PW SA HB2 MU
    go_wp2_with fail
    refine M3.out.mono ?_
    rintro e w4 ⟨r4, z4, rfl, A4, B4⟩
    have D4 := hid (DG.out _ _ _ _ A4)
    have HB4 := hid (HB3.out.trans (B4.mono HB3.out.size))
    clear A4 B4 M3 HB3 DG
    go_wp2_with fail
    refine D4.out.mono ?_
    rintro e w5 ⟨s, xs, rfl, D5, B5⟩
    have N5 := hid (NM.out w5 s xs D5)
    have HB5 := hid (HB4.out.trans (B5.mono HB4.out.size))
    clear D5 B5 D4 HB4 NM
    go_wp2_with fail
    refine N5.out.mono ?_
    rintro e w6 ⟨v, rfl, ⟨t, hv, ht⟩, B6⟩
    unfold decV at hv
    subst hv
    have HB6 := hid (HB5.out.trans (B6.mono HB5.out.size))
    have R6 := hid (HZ.out.1.below HB6.out HZ.out.2)
    obtain ⟨⟨c0, c1, c2⟩, f0, f1, f2⟩ := R6.out.cells
    have G6 : Hid (∃ v, Ending.returned (.agg #[.bool DD.neg, .string t, .int .i64 DD.e]) = .returned v ∧ DecIs v DD) := ⟨_, rfl, t, rfl, ht⟩
    clear B6 N5 HB5 ht
    go_wp2_with fail
    (try simp only [Exit.inBlock, Exit.then])
    refine bodyPost_ret (results_cell_row rfl _ _ w.heap.size 25 _ (0, 0) _ rfl (R6.out.put _ _ _) Tryz.underlying25 rfl (by kernel_rfl)) rfl ?_
    obtain ⟨v, h1, h2⟩ := G6.out
    exact ⟨v, h1, h2, fset3_below (ZB.out.trans (HB6.out.mono ZB.out.size)) (Nat.le_refl _)⟩
  · have hk0 : k = 0 := by omega
    subst hk0
    rw [show min e 0 = e by omega] at NM
    rw [show ((n : Nat) : Int) = -e by omega] at PW
    clear hk SH
    go_enter Tryz.func44, Tryz.ntmps44
    go_wp2_with fail
    refine (FU.out _).mono ?_
    rintro e' w2 ⟨r2, z2, rfl, A2, B2⟩
    have SA : Hid (∀ wx, Below w2.heap.size w2 wx → ∃ B, Ans B wx r2 z2 (m * 2 ^ 0)) := fun wx h => ⟨_, by rw [Int.pow_zero, Int.mul_one]; exact A2.below h (Nat.le_refl _)⟩
    have HB2 := hid B2
    clear A2 B2 FU
    go_wp2_with fail
    refine (PW.out _).mono ?_
    rintro e9 w3 ⟨r3, z3, rfl, A3, B3⟩
    have M3 := hid (MU.out _ _ _ _ _ (SA.out _ B3) ⟨_, A3⟩)
    have HB3 := hid (HB2.out.trans (B3.mono HB2.out.size))
    clear A3 B3 PW SA HB2 MU
    go_wp2_with fail
    refine M3.out.mono ?_
    rintro e9 w4 ⟨r4, z4, rfl, A4, B4⟩
    have D4 := hid (DG.out _ _ _ _ A4)
    have HB4 := hid (HB3.out.trans (B4.mono HB3.out.size))
    clear A4 B4 M3 HB3 DG
    go_wp2_with fail
    refine D4.out.mono ?_
    rintro e9 w5 ⟨s, xs, rfl, D5, B5⟩
    have N5 := hid (NM.out w5 s xs D5)
    have HB5 := hid (HB4.out.trans (B5.mono HB4.out.size))
    clear D5 B5 D4 HB4 NM
    go_wp2_with fail
    refine N5.out.mono ?_
    rintro e9 w6 ⟨v, rfl, ⟨t, hv, ht⟩, B6⟩
    unfold decV at hv
    subst hv
    have HB6 := hid (HB5.out.trans (B6.mono HB5.out.size))
    have R6 := hid (HZ.out.1.below HB6.out HZ.out.2)
    obtain ⟨⟨c0, c1, c2⟩, f0, f1, f2⟩ := R6.out.cells
    have G6 : Hid (∃ v, Ending.returned (.agg #[.bool DD.neg, .string t, .int .i64 DD.e]) = .returned v ∧ DecIs v DD) := ⟨_, rfl, t, rfl, ht⟩
    clear B6 N5 HB5 ht
    go_wp2_with fail
    (try simp only [Exit.inBlock, Exit.then])
    refine bodyPost_ret (results_cell_row rfl _ _ w.heap.size 25 _ (0, 0) _ rfl (R6.out.put _ _ _) Tryz.underlying25 rfl (by kernel_rfl)) rfl ?_
    obtain ⟨v, h1, h2⟩ := G6.out
    exact ⟨v, h1, h2, fset3_below (ZB.out.trans (HB6.out.mono ZB.out.size)) (Nat.le_refl _)⟩
end Go.Proofs.YtjkefcikepnbpaaGreatDoor

namespace Go.Proofs.YtjkefcikepnbpaaGreatDoor
open Go Go.RowKit Go.Deep

/-- A block's cells. -/
def RB (w : World) (b t : Nat) (cs : Array Value) : Prop := w.heap[b]? = some (.cells cs t (0, 0))
theorem RB.new (w : World) (t : Nat) (cs : Array Value) : RB (w.alloc (.cells cs t)) w.heap.size t cs := heap_alloc_new w _
theorem RB.below {B : Nat} {w w' : World} {b t : Nat} {cs : Array Value} (h : RB w b t cs) (hB : Below B w w') (hb : b < B) : RB w' b t cs := by
  rw [RB, hB.block b hb]; exact h
theorem RB.lt {w : World} {b t : Nat} {cs : Array Value} (h : RB w b t cs) : b < w.heap.size := by
  rcases Nat.lt_or_ge b w.heap.size with hl | hl
  · exact hl
  · simp [RB, Array.getElem?_eq_none hl] at h
theorem RB.cell {w : World} {b t : Nat} {cs : Array Value} (h : RB w b t cs) (i : Nat) (v : Value) (hi : cs[i]? = some v) : w.cell? ⟨b, i, none⟩ = some v := by
  simp only [RB] at h
  simp [World.cell?, h, hi]
theorem RB.free {w : World} {b t : Nat} {cs : Array Value} (h : RB w b t cs) (i : Nat) : w.frozen? ⟨b, i, none⟩ = false := by
  simp only [RB] at h
  simp [World.frozen?, h]
theorem RB.far {w : World} {b c o t : Nat} {v : Value} {cs : Array Value} (h : RB w b t cs) (hc : c ≠ b) : RB (w.setCell ⟨c, o, none⟩ v) b t cs := by
  simp only [RB] at *
  simp only [World.setCell, Array.getElem?_modify]
  rw [if_neg hc]; exact h
theorem RB.set {w : World} {b t : Nat} {cs : Array Value} (h : RB w b t cs) (o : Nat) (v : Value) : RB (w.setCell ⟨b, o, none⟩ v) b t (cs.setIfInBounds o v) := fset1 h rfl

def Ten (w : World) (b : Nat) (a0 a1 a2 b0 b1 b2 c0 c1 c2 d : Value) : Prop := RB w b 51 #[a0, a1, a2, b0, b1, b2, c0, c1, c2, d]
theorem Ten.cells {w : World} {b : Nat} {a0 a1 a2 b0 b1 b2 c0 c1 c2 d : Value} (h : Ten w b a0 a1 a2 b0 b1 b2 c0 c1 c2 d) :
    (w.cell? ⟨b, 0, none⟩ = some a0 ∧ w.cell? ⟨b, 1, none⟩ = some a1 ∧ w.cell? ⟨b, 2, none⟩ = some a2) ∧ (w.cell? ⟨b, 3, none⟩ = some b0 ∧ w.cell? ⟨b, 4, none⟩ = some b1 ∧ w.cell? ⟨b, 5, none⟩ = some b2) ∧ (w.cell? ⟨b, 6, none⟩ = some c0 ∧ w.cell? ⟨b, 7, none⟩ = some c1 ∧ w.cell? ⟨b, 8, none⟩ = some c2) ∧ w.cell? ⟨b, 9, none⟩ = some d :=
  ⟨⟨h.cell 0 _ rfl, h.cell 1 _ rfl, h.cell 2 _ rfl⟩, ⟨h.cell 3 _ rfl, h.cell 4 _ rfl, h.cell 5 _ rfl⟩, ⟨h.cell 6 _ rfl, h.cell 7 _ rfl, h.cell 8 _ rfl⟩, h.cell 9 _ rfl⟩
theorem Ten.free {w : World} {b : Nat} {a0 a1 a2 b0 b1 b2 c0 c1 c2 d : Value} (h : Ten w b a0 a1 a2 b0 b1 b2 c0 c1 c2 d) :
    (w.frozen? ⟨b, 0, none⟩ = false ∧ w.frozen? ⟨b, 1, none⟩ = false ∧ w.frozen? ⟨b, 2, none⟩ = false) ∧ (w.frozen? ⟨b, 3, none⟩ = false ∧ w.frozen? ⟨b, 4, none⟩ = false ∧ w.frozen? ⟨b, 5, none⟩ = false) ∧ (w.frozen? ⟨b, 6, none⟩ = false ∧ w.frozen? ⟨b, 7, none⟩ = false ∧ w.frozen? ⟨b, 8, none⟩ = false) ∧ w.frozen? ⟨b, 9, none⟩ = false :=
  ⟨⟨RB.free h 0, RB.free h 1, RB.free h 2⟩, ⟨RB.free h 3, RB.free h 4, RB.free h 5⟩, ⟨RB.free h 6, RB.free h 7, RB.free h 8⟩, RB.free h 9⟩
theorem Ten.put {w : World} {b : Nat} {a0 a1 a2 b0 b1 b2 c0 c1 c2 d : Value} (h : Ten w b a0 a1 a2 b0 b1 b2 c0 c1 c2 d) (x0 x1 x2 y0 y1 y2 z0 z1 z2 u : Value) :
    Ten ((((((((((w.setCell ⟨b, 0, none⟩ x0).setCell ⟨b, 1, none⟩ x1).setCell ⟨b, 2, none⟩ x2).setCell ⟨b, 3, none⟩ y0).setCell ⟨b, 4, none⟩ y1).setCell ⟨b, 5, none⟩ y2).setCell ⟨b, 6, none⟩ z0).setCell ⟨b, 7, none⟩ z1).setCell ⟨b, 8, none⟩ z2).setCell ⟨b, 9, none⟩ u) b x0 x1 x2 y0 y1 y2 z0 z1 z2 u := by
  have h0 := fset1 (o := 0) (v := x0) (c' := #[x0, a1, a2, b0, b1, b2, c0, c1, c2, d]) h (by simp [Array.setIfInBounds])
  have h1 := fset1 (o := 1) (v := x1) (c' := #[x0, x1, a2, b0, b1, b2, c0, c1, c2, d]) h0 (by simp [Array.setIfInBounds])
  have h2 := fset1 (o := 2) (v := x2) (c' := #[x0, x1, x2, b0, b1, b2, c0, c1, c2, d]) h1 (by simp [Array.setIfInBounds])
  have h3 := fset1 (o := 3) (v := y0) (c' := #[x0, x1, x2, y0, b1, b2, c0, c1, c2, d]) h2 (by simp [Array.setIfInBounds])
  have h4 := fset1 (o := 4) (v := y1) (c' := #[x0, x1, x2, y0, y1, b2, c0, c1, c2, d]) h3 (by simp [Array.setIfInBounds])
  have h5 := fset1 (o := 5) (v := y2) (c' := #[x0, x1, x2, y0, y1, y2, c0, c1, c2, d]) h4 (by simp [Array.setIfInBounds])
  have h6 := fset1 (o := 6) (v := z0) (c' := #[x0, x1, x2, y0, y1, y2, z0, c1, c2, d]) h5 (by simp [Array.setIfInBounds])
  have h7 := fset1 (o := 7) (v := z1) (c' := #[x0, x1, x2, y0, y1, y2, z0, z1, c2, d]) h6 (by simp [Array.setIfInBounds])
  have h8 := fset1 (o := 8) (v := z2) (c' := #[x0, x1, x2, y0, y1, y2, z0, z1, z2, d]) h7 (by simp [Array.setIfInBounds])
  have h9 := fset1 (o := 9) (v := u) (c' := #[x0, x1, x2, y0, y1, y2, z0, z1, z2, u]) h8 (by simp [Array.setIfInBounds])
  exact h9
theorem set10_below {B : Nat} {w w' : World} {b : Nat} {x0 x1 x2 y0 y1 y2 z0 z1 z2 u : Value} (h : Below B w w') (hb : B ≤ b) : Below B w ((((((((((w'.setCell ⟨b, 0, none⟩ x0).setCell ⟨b, 1, none⟩ x1).setCell ⟨b, 2, none⟩ x2).setCell ⟨b, 3, none⟩ y0).setCell ⟨b, 4, none⟩ y1).setCell ⟨b, 5, none⟩ y2).setCell ⟨b, 6, none⟩ z0).setCell ⟨b, 7, none⟩ z1).setCell ⟨b, 8, none⟩ z2).setCell ⟨b, 9, none⟩ u) :=
  (fset3_below h hb).setCell (p := ⟨b, 3, none⟩) hb y0 |>.setCell (p := ⟨b, 4, none⟩) hb y1 |>.setCell (p := ⟨b, 5, none⟩) hb y2 |>.setCell (p := ⟨b, 6, none⟩) hb z0 |>.setCell (p := ⟨b, 7, none⟩) hb z1 |>.setCell (p := ⟨b, 8, none⟩) hb z2 |>.setCell (p := ⟨b, 9, none⟩) hb u

namespace Ie
theorem dec_fin2 (x : Int) (h0 : 0 < x) (h1 : x < 9218868437227405312) : dm x = man x ∧ de x = (ex x : Int) - 1074 := by
  have hf : fld x = x / 4503599627370496 := by simp only [fld]; omega
  by_cases hs : x < 4503599627370496
  · have c : cls x = 1 := by
      rw [cls, hf, if_pos (by omega), if_neg (by omega)]
    constructor
    · rw [dm, c, if_neg (by omega), if_pos (by omega), man, if_pos hs]; omega
    · rw [de, c, if_neg (by omega), if_pos rfl, ex]; omega
  · have c : cls x = 2 := by
      rw [cls, hf, if_neg (by omega), if_neg (by omega)]
    constructor
    · rw [dm, c, if_pos rfl, man, if_neg hs]
    · rw [de, c, if_pos rfl, ex, hf]; omega
end Ie
theorem Sh.zB0 : (1 : Int) * 2 ^ ((-1075 : Int) + 1075).toNat * Sh.T5 = Sh.B 0 := by rw [Sh.B, Ie.md_zero]; rfl
theorem Sh.zB {a : Int} : (2 * Ie.man a + 1) * 2 ^ ((Ie.ex a : Int) - 1074 - 1 + 1075).toNat * Sh.T5 = Sh.B a := by
  rw [Sh.B, Ie.md, show ((Ie.ex a : Int) - 1074 - 1 + 1075).toNat = Ie.ex a by omega]
theorem Sh.zV {a : Int} : Ie.man a * 2 ^ ((Ie.ex a : Int) - 1074 + 1075).toNat * Sh.T5 = Sh.V a := by
  rw [Sh.V, Ie.vl, show ((Ie.ex a : Int) - 1074 + 1075).toNat = Ie.ex a + 1 by omega, Int.pow_succ]
  generalize (2 : Int) ^ Ie.ex a = y
  generalize Sh.T5 = z
  congr 1
  rw [Int.mul_comm y 2, ← Int.mul_assoc, Int.mul_comm (Ie.man a) 2]
theorem Sh.ex_le {a : Int} (h : a < 9218868437227405312) : (Ie.ex a : Int) ≤ 2045 := by unfold Ie.ex; omega
theorem Sh.cls0 : Ie.cls 0 = 0 ∧ Ie.dm 0 = 0 ∧ Ie.de 0 = 0 := by decide
theorem Sh.clsP {a : Int} (h0 : 0 < a) (h1 : a < 9218868437227405312) : (Ie.cls a == 0) = false ∧ (Ie.cls a != 0) = true := by
  have : Ie.cls a ≠ 0 := by
    unfold Ie.cls Ie.fld
    split
    · split
      · omega
      · omega
    · split
      · split <;> omega
      · omega
  simp [this]

set_option maxRecDepth 100000 in
set_option maxHeartbeats 4000000 in
theorem zhalfway_any (a : Int) (w : World) (h0 : 0 ≤ a) (h1 : a < 9218868437227405312) :
    Calls Tryz.prog 45 #[.int .u64 a] w fun r w' => ∃ v, r = .returned v ∧ DecIs v (Sh.dd (Sh.B a)) ∧ Below w.heap.size w w' := by
  have D := hid (fun wx : World => decode_any a wx h0 (by omega))
  have Z := FR3.new w (.bool false) (.string ⟨#[]⟩) (.int .i64 0)
  have ZB := hid (alloc_b w (.cells #[.bool false, .string ⟨#[]⟩, .int .i64 0] 25))
  have HZ : Hid (FR3 (w.alloc (.cells #[.bool false, .string ⟨#[]⟩, .int .i64 0] 25)) w.heap.size (.bool false) (.string ⟨#[]⟩) (.int .i64 0) ∧ w.heap.size < (w.alloc (.cells #[.bool false, .string ⟨#[]⟩, .int .i64 0] 25)).heap.size) := ⟨Z, Z.lt⟩
  simp only [partsOf] at D
  clear Z
  rcases (show a = 0 ∨ 0 < a by omega) with ha | ha
  · subst ha
    have EX := hid (fun wx : World => zexact_any 1 (-1075) wx (by omega) (by omega) (by omega) (by omega))
    rw [Sh.zB0] at EX
    obtain ⟨k1, k2, k3⟩ := Sh.cls0
    rw [k1, k2, k3] at D
    clear k1 k2 k3 h0 h1
    generalize Sh.dd (Sh.B 0) = DD at *
    generalize decide (9223372036854775808 ≤ (0 : Int)) = neg at *
    go_enter Tryz.func45, Tryz.ntmps45
    go_wp2_with fail
    refine (D.out _).mono ?_
    rintro e w1 ⟨rfl, B1⟩
    have HB1 := hid B1
    clear B1 D
    go_wp2_with fail
    refine (EX.out _).mono ?_
    rintro e w2 ⟨v, rfl, ⟨t, hv, ht⟩, B2⟩
    unfold decV at hv
    subst hv
    have HB6 := hid (HB1.out.trans (((alloc_b w1 _).trans (B2.mono (alloc_b w1 _).size)).mono HB1.out.size))
    have R6 := hid (HZ.out.1.below HB6.out HZ.out.2)
    obtain ⟨⟨c0, c1, c2⟩, f0, f1, f2⟩ := R6.out.cells
    have G6 : Hid (∃ v, Ending.returned (.agg #[.bool DD.neg, .string t, .int .i64 DD.e]) = .returned v ∧ DecIs v DD) := ⟨_, rfl, t, rfl, ht⟩
    clear B2 EX ht HB1
    go_wp2_with fail
    (try simp only [Exit.inBlock, Exit.then])
    refine bodyPost_ret (results_cell_row rfl _ _ w.heap.size 25 _ (0, 0) _ rfl (R6.out.put _ _ _) Tryz.underlying25 rfl (by kernel_rfl)) rfl ?_
    obtain ⟨v, h1, h2⟩ := G6.out
    exact ⟨v, h1, h2, fset3_below (ZB.out.trans (HB6.out.mono ZB.out.size)) (Nat.le_refl _)⟩
  · obtain ⟨k2, k3⟩ := Ie.dec_fin2 a ha h1
    obtain ⟨k4, k5⟩ := Sh.clsP ha h1
    have xb := Sh.ex_le h1
    have mb := Ie.man_nn a h0
    rw [k2, k3] at D
    have EX := hid (fun wx : World => zexact_any (2 * Ie.man a + 1) ((Ie.ex a : Int) - 1074 - 1) wx (by omega) (by omega) (by omega) (by omega))
    rw [Sh.zB] at EX
    have xb0 : (0 : Int) ≤ (Ie.ex a : Int) := by omega
    clear k2 k3 h0 h1 ha
    generalize Sh.dd (Sh.B a) = DD at *
    generalize decide (9223372036854775808 ≤ a) = neg at *
    generalize Ie.cls a = c at *
    generalize Ie.man a = m at *
    generalize (Ie.ex a : Int) = x at *
    go_enter Tryz.func45, Tryz.ntmps45
    go_wp2_with fail
    refine (D.out _).mono ?_
    rintro e w1 ⟨rfl, B1⟩
    have HB1 := hid B1
    clear B1 D
    go_wp2_with fail
    refine (EX.out _).mono ?_
    rintro e w2 ⟨v, rfl, ⟨t, hv, ht⟩, B2⟩
    unfold decV at hv
    subst hv
    have HB6 := hid (HB1.out.trans (((alloc_b w1 _).trans (B2.mono (alloc_b w1 _).size)).mono HB1.out.size))
    have R6 := hid (HZ.out.1.below HB6.out HZ.out.2)
    obtain ⟨⟨c0, c1, c2⟩, f0, f1, f2⟩ := R6.out.cells
    have G6 : Hid (∃ v, Ending.returned (.agg #[.bool DD.neg, .string t, .int .i64 DD.e]) = .returned v ∧ DecIs v DD) := ⟨_, rfl, t, rfl, ht⟩
    clear B2 EX ht HB1
    go_wp2_with fail
    (try simp only [Exit.inBlock, Exit.then])
    refine bodyPost_ret (results_cell_row rfl _ _ w.heap.size 25 _ (0, 0) _ rfl (R6.out.put _ _ _) Tryz.underlying25 rfl (by kernel_rfl)) rfl ?_
    obtain ⟨v, h1, h2⟩ := G6.out
    exact ⟨v, h1, h2, fset3_below (ZB.out.trans (HB6.out.mono ZB.out.size)) (Nat.le_refl _)⟩
end Go.Proofs.YtjkefcikepnbpaaGreatDoor

namespace Go.Proofs.YtjkefcikepnbpaaGreatDoor
open Go Go.RowKit Go.Deep

/-- A span: a double, its bounds. -/
def spanV (P A B : Sc.D) (s1 s2 s3 : ByteArray) (c : Bool) : Value := .agg #[.bool P.neg, .string s1, .int .i64 P.e, .bool A.neg, .string s2, .int .i64 A.e, .bool B.neg, .string s3, .int .i64 B.e, .bool c]
def SpanIs (v : Value) (a : Int) : Prop := ∃ s1 s2 s3, v = spanV (Sh.dd (Sh.V a)) (Sh.dd (Sh.A a)) (Sh.dd (Sh.B a)) s1 s2 s3 (decide (a % 2 = 0)) ∧ Str s1 (Sh.dd (Sh.V a)).ds ∧ Str s2 (Sh.dd (Sh.A a)).ds ∧ Str s3 (Sh.dd (Sh.B a)).ds

theorem Sh.dnP {a : Int} (h0 : 0 < a) (h1 : a < 9218868437227405312) : Ie.dnd a = a - 1 := by
  have k : ∀ x : Int, x = a ∨ x = a + 9223372036854775808 → Ie.okd x = true := by
    intro x hx
    unfold Ie.okd
    apply decide_eq_true
    omega
  have n1 : Ie.ng a = a + 9223372036854775808 := by unfold Ie.ng; rw [if_pos (by omega)]
  unfold Ie.dnd
  rw [if_neg (by rw [k a (.inl rfl)]; decide), n1]
  unfold Ie.upd
  rw [if_neg (by rw [k _ (.inr rfl)]; decide), if_neg (by omega), if_neg (by omega), if_pos (by omega)]
  unfold Ie.ng
  rw [if_neg (by omega)]
  omega
theorem dec_open {k : Nat} {vs : Array Value} {D : Sc.D} (h : ∀ wx : World, Calls Tryz.prog k vs wx fun r w' => ∃ v, r = .returned v ∧ DecIs v D ∧ Below wx.heap.size wx w') :
    ∀ wx : World, Calls Tryz.prog k vs wx fun r w' => ∃ t, r = .returned (.agg #[.bool D.neg, .string t, .int .i64 D.e]) ∧ Hid (Str t D.ds) ∧ Below wx.heap.size wx w' := by
  intro wx
  refine (h wx).mono ?_
  rintro e w' ⟨v, rfl, ⟨t, hv, ht⟩, hB⟩
  exact ⟨t, by rw [hv]; rfl, ht, hB⟩
theorem set_far {w : World} {b c o i : Nat} {v : Value} (h : b ≠ c) : (w.setCell ⟨b, o, none⟩ v).cell? ⟨c, i, none⟩ = w.cell? ⟨c, i, none⟩ := by
  simp only [World.setCell, World.cell?, Array.getElem?_modify]
  rw [if_neg h]
theorem Sh.A0 : Sh.A 0 = 0 := by rw [Sh.A, if_pos rfl]
theorem Sh.AP {a : Int} (h : 0 < a) : Sh.A a = Sh.B (a - 1) := by rw [Sh.A, if_neg (by omega)]
theorem Sh.z00 : (0 : Int) * 2 ^ ((0 : Int) + 1075).toNat * Sh.T5 = 0 := by rw [Int.zero_mul, Int.zero_mul]

set_option maxRecDepth 100000 in
set_option maxHeartbeats 1000000 in
theorem zspan_any (d : Int) (w : World) (h0 : 0 ≤ d) (h1 : d < 18446744073709551616) (hf : d % 9223372036854775808 < 9218868437227405312) :
    Calls Tryz.prog 25 #[.int .u64 d] w fun r w' => ∃ v, r = .returned v ∧ SpanIs v (d % 9223372036854775808) ∧ Below w.heap.size w w' := by
  have AB := hid (fun wx : World => abs_any d wx h0 h1)
  obtain ⟨a, ha⟩ : ∃ a, d % 9223372036854775808 = a := ⟨_, rfl⟩
  have a0 : 0 ≤ a := by omega
  rw [ha] at hf AB ⊢
  have D := hid (fun wx : World => decode_any a wx a0 (by omega))
  have E0' := fun wx : World => zexact_any 0 0 wx (by omega) (by omega) (by omega) (by omega)
  rw [Sh.z00] at E0'
  have E0 := hid (dec_open E0')
  clear E0'
  have HI := hid (dec_open (fun wx : World => zhalfway_any a wx a0 hf))
  simp only [partsOf] at D
  have G : Hid (∀ s1 s2 s3, Str s1 (Sh.dd (Sh.V a)).ds → Str s2 (Sh.dd (Sh.A a)).ds → Str s3 (Sh.dd (Sh.B a)).ds → SpanIs (spanV (Sh.dd (Sh.V a)) (Sh.dd (Sh.A a)) (Sh.dd (Sh.B a)) s1 s2 s3 (decide (a % 2 = 0))) a) := fun s1 s2 s3 g1 g2 g3 => ⟨s1, s2, s3, rfl, g1, g2, g3⟩
  have cl : (a.tmod 2 == 0) = decide (a % 2 = 0) := by rw [Int.tmod_eq_emod_of_nonneg a0]; by_cases q : a % 2 = 0 <;> simp [q]
  have TZ : Hid (Ten (w.alloc (.cells #[.bool false, .string ⟨#[]⟩, .int .i64 0, .bool false, .string ⟨#[]⟩, .int .i64 0, .bool false, .string ⟨#[]⟩, .int .i64 0, .bool false] 51)) w.heap.size (.bool false) (.string ⟨#[]⟩) (.int .i64 0) (.bool false) (.string ⟨#[]⟩) (.int .i64 0) (.bool false) (.string ⟨#[]⟩) (.int .i64 0) (.bool false)) := RB.new w 51 _
  have ZB := hid (alloc_b w (.cells #[.bool false, .string ⟨#[]⟩, .int .i64 0, .bool false, .string ⟨#[]⟩, .int .i64 0, .bool false, .string ⟨#[]⟩, .int .i64 0, .bool false] 51))
  clear ha h0 h1
  rcases (show a = 0 ∨ 0 < a by omega) with hz | hp
  · subst hz
    obtain ⟨k1, k2, k3⟩ := Sh.cls0
    rw [k1, k2, k3] at D
    rw [Sh.A0, Sh.V_zero, show decide ((0 : Int) % 2 = 0) = true from rfl] at G
    have EV := E0
    clear k1 k2 k3 hf a0
    generalize decide (9223372036854775808 ≤ (0 : Int)) = neg at *
    generalize Sh.dd 0 = DA at *
    generalize Sh.dd (Sh.B 0) = DB at *
    go_enter Tryz.func25, Tryz.ntmps25
    go_wp2_with fail
    refine (AB.out _).mono ?_
    rintro e wz ⟨rfl, hz⟩
    subst hz
    go_wp2_with fail
    refine (D.out _).mono ?_
    rintro e w1 ⟨rfl, B1⟩
    have PC : Hid ((w1.alloc (.cells #[.bool neg, .int .i64 0, .int .u64 0, .int .i64 0] 72)).cell? ⟨w1.heap.size, 2, none⟩ = some (.int .u64 0) ∧ (w1.alloc (.cells #[.bool neg, .int .i64 0, .int .u64 0, .int .i64 0] 72)).cell? ⟨w1.heap.size, 3, none⟩ = some (.int .i64 0)) := ⟨(RB.new w1 72 _).cell 2 _ rfl, (RB.new w1 72 _).cell 3 _ rfl⟩
    have HS1 : Hid (w.heap.size < w1.heap.size) := Nat.lt_of_lt_of_le (RB.lt TZ.out) B1.size
    have PC0 : Hid ((w1.alloc (.cells #[.bool neg, .int .i64 0, .int .u64 0, .int .i64 0] 72)).cell? ⟨w1.heap.size, 1, none⟩ = some (.int .i64 0)) := (RB.new w1 72 _).cell 1 _ rfl
    have HB1 := hid (B1.trans ((alloc_b w1 (.cells #[.bool neg, .int .i64 0, .int .u64 0, .int .i64 0] 72)).mono B1.size))
    clear B1 D AB
    go_wp2_with fail
    refine (E0.out _).mono ?_
    rintro e w2 ⟨t2, rfl, HT2, B2⟩
    have HB2 := hid (HB1.out.trans (B2.mono HB1.out.size))
    have PC : Hid (w2.cell? ⟨w1.heap.size, 2, none⟩ = some (.int .u64 0) ∧ w2.cell? ⟨w1.heap.size, 3, none⟩ = some (.int .i64 0)) := ⟨(B2.cell (cell_lt PC.out.1)).trans PC.out.1, (B2.cell (cell_lt PC.out.2)).trans PC.out.2⟩
    have HBs : Hid (w.heap.size < w1.heap.size ∧ w1.heap.size < w2.heap.size) := ⟨HS1.out, Nat.lt_of_lt_of_le (RB.lt (RB.new w1 72 _)) B2.size⟩
    have PC1 : Hid (w2.cell? ⟨w1.heap.size, 1, none⟩ = some (.int .i64 0)) := (B2.cell (cell_lt PC0.out)).trans PC0.out
    clear B2 E0 HB1
    have hbL := hid (HB2.out.trans ((alloc_b w2 (.cells #[.bool DA.neg, .string t2, .int .i64 DA.e] 25)).mono HB2.out.size))
    obtain ⟨SS, KS, CS, BS, MS⟩ := state (fun w' => Ten w' w.heap.size (.bool false) (.string ⟨#[]⟩) (.int .i64 0) (.bool false) (.string ⟨#[]⟩) (.int .i64 0) (.bool false) (.string ⟨#[]⟩) (.int .i64 0) (.bool false) ∧ (w'.cell? ⟨w1.heap.size, 2, none⟩ = some (.int .u64 0) ∧ w'.cell? ⟨w1.heap.size, 3, none⟩ = some (.int .i64 0)) ∧ (w'.cell? ⟨w2.heap.size, 0, none⟩ = some (.bool DA.neg) ∧ w'.cell? ⟨w2.heap.size, 1, none⟩ = some (.string t2) ∧ w'.cell? ⟨w2.heap.size, 2, none⟩ = some (.int .i64 DA.e))) w
      (Stays.and (fun _ _ g hB => RB.below g hB (RB.lt g)) (((Stays.cell _ _).and (Stays.cell _ _)).and ((Stays.cell _ _).and ((Stays.cell _ _).and (Stays.cell _ _)))))
    have P3 := FR3.new w2 (.bool DA.neg) (.string t2) (.int .i64 DA.e)
    have aL := alloc_b w2 (.cells #[.bool DA.neg, .string t2, .int .i64 DA.e] 25)
    have S0 := hid (MS.out _ ⟨RB.below TZ.out hbL.out (RB.lt TZ.out), ⟨(aL.cell (cell_lt PC.out.1)).trans PC.out.1, (aL.cell (cell_lt PC.out.2)).trans PC.out.2⟩, P3.cells.1⟩ (ZB.out.trans (hbL.out.mono ZB.out.size)))
    have lt1 : w.heap.size ≠ w1.heap.size := by have := HBs.out; omega
    have lt2 : w.heap.size ≠ w2.heap.size := by have := HBs.out; omega
    obtain ⟨g, hg⟩ : ∃ g : World → Nat → Value, Hid (∀ w' i, g w' i = (w'.cell? ⟨w.heap.size, i, none⟩).getD (.bool false)) := ⟨_, fun _ _ => rfl⟩
    have TG : Hid (∀ (wx : World) (x0 x1 x2 x3 x4 x5 x6 x7 x8 x9 : Value), Ten wx w.heap.size x0 x1 x2 x3 x4 x5 x6 x7 x8 x9 → (wx.cell? ⟨w.heap.size, 0, none⟩ = some (g wx 0) ∧ wx.frozen? ⟨w.heap.size, 0, none⟩ = false) ∧ (wx.cell? ⟨w.heap.size, 1, none⟩ = some (g wx 1) ∧ wx.frozen? ⟨w.heap.size, 1, none⟩ = false) ∧ (wx.cell? ⟨w.heap.size, 2, none⟩ = some (g wx 2) ∧ wx.frozen? ⟨w.heap.size, 2, none⟩ = false) ∧ (wx.cell? ⟨w.heap.size, 3, none⟩ = some (g wx 3) ∧ wx.frozen? ⟨w.heap.size, 3, none⟩ = false) ∧ (wx.cell? ⟨w.heap.size, 4, none⟩ = some (g wx 4) ∧ wx.frozen? ⟨w.heap.size, 4, none⟩ = false) ∧ (wx.cell? ⟨w.heap.size, 5, none⟩ = some (g wx 5) ∧ wx.frozen? ⟨w.heap.size, 5, none⟩ = false) ∧ (wx.cell? ⟨w.heap.size, 6, none⟩ = some (g wx 6) ∧ wx.frozen? ⟨w.heap.size, 6, none⟩ = false) ∧ (wx.cell? ⟨w.heap.size, 7, none⟩ = some (g wx 7) ∧ wx.frozen? ⟨w.heap.size, 7, none⟩ = false) ∧ (wx.cell? ⟨w.heap.size, 8, none⟩ = some (g wx 8) ∧ wx.frozen? ⟨w.heap.size, 8, none⟩ = false) ∧ (wx.cell? ⟨w.heap.size, 9, none⟩ = some (g wx 9) ∧ wx.frozen? ⟨w.heap.size, 9, none⟩ = false)) := by
      intro wx x0 x1 x2 x3 x4 x5 x6 x7 x8 x9 h
      have key : ∀ i v, wx.cell? ⟨w.heap.size, i, none⟩ = some v → wx.cell? ⟨w.heap.size, i, none⟩ = some (g wx i) := fun i v q => by rw [hg.out, q]; rfl
      exact ⟨⟨key 0 _ (RB.cell h 0 _ rfl), RB.free h 0⟩, ⟨key 1 _ (RB.cell h 1 _ rfl), RB.free h 1⟩, ⟨key 2 _ (RB.cell h 2 _ rfl), RB.free h 2⟩, ⟨key 3 _ (RB.cell h 3 _ rfl), RB.free h 3⟩, ⟨key 4 _ (RB.cell h 4 _ rfl), RB.free h 4⟩, ⟨key 5 _ (RB.cell h 5 _ rfl), RB.free h 5⟩, ⟨key 6 _ (RB.cell h 6 _ rfl), RB.free h 6⟩, ⟨key 7 _ (RB.cell h 7 _ rfl), RB.free h 7⟩, ⟨key 8 _ (RB.cell h 8 _ rfl), RB.free h 8⟩, ⟨key 9 _ (RB.cell h 9 _ rfl), RB.free h 9⟩⟩
    have FT : Hid (∀ wx : World, SS wx → (((wx.cell? ⟨w1.heap.size, 2, none⟩ = some (.int .u64 0) ∧ wx.cell? ⟨w1.heap.size, 3, none⟩ = some (.int .i64 0)) ∧ (wx.cell? ⟨w2.heap.size, 0, none⟩ = some (.bool DA.neg) ∧ wx.cell? ⟨w2.heap.size, 1, none⟩ = some (.string t2) ∧ wx.cell? ⟨w2.heap.size, 2, none⟩ = some (.int .i64 DA.e))) ∧ (wx.cell? ⟨w.heap.size, 0, none⟩ = some (g wx 0) ∧ wx.frozen? ⟨w.heap.size, 0, none⟩ = false) ∧ (wx.cell? ⟨w.heap.size, 1, none⟩ = some (g wx 1) ∧ wx.frozen? ⟨w.heap.size, 1, none⟩ = false) ∧ (wx.cell? ⟨w.heap.size, 2, none⟩ = some (g wx 2) ∧ wx.frozen? ⟨w.heap.size, 2, none⟩ = false) ∧ (wx.cell? ⟨w.heap.size, 3, none⟩ = some (g wx 3) ∧ wx.frozen? ⟨w.heap.size, 3, none⟩ = false) ∧ (wx.cell? ⟨w.heap.size, 4, none⟩ = some (g wx 4) ∧ wx.frozen? ⟨w.heap.size, 4, none⟩ = false) ∧ (wx.cell? ⟨w.heap.size, 5, none⟩ = some (g wx 5) ∧ wx.frozen? ⟨w.heap.size, 5, none⟩ = false) ∧ (wx.cell? ⟨w.heap.size, 6, none⟩ = some (g wx 6) ∧ wx.frozen? ⟨w.heap.size, 6, none⟩ = false) ∧ (wx.cell? ⟨w.heap.size, 7, none⟩ = some (g wx 7) ∧ wx.frozen? ⟨w.heap.size, 7, none⟩ = false) ∧ (wx.cell? ⟨w.heap.size, 8, none⟩ = some (g wx 8) ∧ wx.frozen? ⟨w.heap.size, 8, none⟩ = false) ∧ (wx.cell? ⟨w.heap.size, 9, none⟩ = some (g wx 9) ∧ wx.frozen? ⟨w.heap.size, 9, none⟩ = false))) := fun wx h => ⟨(CS.out wx h).2, TG.out wx _ _ _ _ _ _ _ _ _ _ (CS.out wx h).1⟩
    have FS : Hid (∀ (wx : World) (x0 x1 x2 x3 x4 x5 x6 x7 x8 x9 : Value), SS wx → (((((((((((((wx.setCell ⟨w.heap.size, 0, none⟩ x0).setCell ⟨w.heap.size, 1, none⟩ x1).setCell ⟨w.heap.size, 2, none⟩ x2).setCell ⟨w.heap.size, 3, none⟩ x3).setCell ⟨w.heap.size, 4, none⟩ x4).setCell ⟨w.heap.size, 5, none⟩ x5).setCell ⟨w.heap.size, 6, none⟩ x6).setCell ⟨w.heap.size, 7, none⟩ x7).setCell ⟨w.heap.size, 8, none⟩ x8).setCell ⟨w.heap.size, 9, none⟩ x9).cell? ⟨w1.heap.size, 2, none⟩ = some (.int .u64 0) ∧ ((((((((((wx.setCell ⟨w.heap.size, 0, none⟩ x0).setCell ⟨w.heap.size, 1, none⟩ x1).setCell ⟨w.heap.size, 2, none⟩ x2).setCell ⟨w.heap.size, 3, none⟩ x3).setCell ⟨w.heap.size, 4, none⟩ x4).setCell ⟨w.heap.size, 5, none⟩ x5).setCell ⟨w.heap.size, 6, none⟩ x6).setCell ⟨w.heap.size, 7, none⟩ x7).setCell ⟨w.heap.size, 8, none⟩ x8).setCell ⟨w.heap.size, 9, none⟩ x9).cell? ⟨w1.heap.size, 3, none⟩ = some (.int .i64 0)) ∧ (((((((((((wx.setCell ⟨w.heap.size, 0, none⟩ x0).setCell ⟨w.heap.size, 1, none⟩ x1).setCell ⟨w.heap.size, 2, none⟩ x2).setCell ⟨w.heap.size, 3, none⟩ x3).setCell ⟨w.heap.size, 4, none⟩ x4).setCell ⟨w.heap.size, 5, none⟩ x5).setCell ⟨w.heap.size, 6, none⟩ x6).setCell ⟨w.heap.size, 7, none⟩ x7).setCell ⟨w.heap.size, 8, none⟩ x8).setCell ⟨w.heap.size, 9, none⟩ x9).cell? ⟨w2.heap.size, 0, none⟩ = some (.bool DA.neg) ∧ ((((((((((wx.setCell ⟨w.heap.size, 0, none⟩ x0).setCell ⟨w.heap.size, 1, none⟩ x1).setCell ⟨w.heap.size, 2, none⟩ x2).setCell ⟨w.heap.size, 3, none⟩ x3).setCell ⟨w.heap.size, 4, none⟩ x4).setCell ⟨w.heap.size, 5, none⟩ x5).setCell ⟨w.heap.size, 6, none⟩ x6).setCell ⟨w.heap.size, 7, none⟩ x7).setCell ⟨w.heap.size, 8, none⟩ x8).setCell ⟨w.heap.size, 9, none⟩ x9).cell? ⟨w2.heap.size, 1, none⟩ = some (.string t2) ∧ ((((((((((wx.setCell ⟨w.heap.size, 0, none⟩ x0).setCell ⟨w.heap.size, 1, none⟩ x1).setCell ⟨w.heap.size, 2, none⟩ x2).setCell ⟨w.heap.size, 3, none⟩ x3).setCell ⟨w.heap.size, 4, none⟩ x4).setCell ⟨w.heap.size, 5, none⟩ x5).setCell ⟨w.heap.size, 6, none⟩ x6).setCell ⟨w.heap.size, 7, none⟩ x7).setCell ⟨w.heap.size, 8, none⟩ x8).setCell ⟨w.heap.size, 9, none⟩ x9).cell? ⟨w2.heap.size, 2, none⟩ = some (.int .i64 DA.e))) ∧ (((((((((((wx.setCell ⟨w.heap.size, 0, none⟩ x0).setCell ⟨w.heap.size, 1, none⟩ x1).setCell ⟨w.heap.size, 2, none⟩ x2).setCell ⟨w.heap.size, 3, none⟩ x3).setCell ⟨w.heap.size, 4, none⟩ x4).setCell ⟨w.heap.size, 5, none⟩ x5).setCell ⟨w.heap.size, 6, none⟩ x6).setCell ⟨w.heap.size, 7, none⟩ x7).setCell ⟨w.heap.size, 8, none⟩ x8).setCell ⟨w.heap.size, 9, none⟩ x9).cell? ⟨w.heap.size, 0, none⟩ = some (g ((((((((((wx.setCell ⟨w.heap.size, 0, none⟩ x0).setCell ⟨w.heap.size, 1, none⟩ x1).setCell ⟨w.heap.size, 2, none⟩ x2).setCell ⟨w.heap.size, 3, none⟩ x3).setCell ⟨w.heap.size, 4, none⟩ x4).setCell ⟨w.heap.size, 5, none⟩ x5).setCell ⟨w.heap.size, 6, none⟩ x6).setCell ⟨w.heap.size, 7, none⟩ x7).setCell ⟨w.heap.size, 8, none⟩ x8).setCell ⟨w.heap.size, 9, none⟩ x9) 0) ∧ ((((((((((wx.setCell ⟨w.heap.size, 0, none⟩ x0).setCell ⟨w.heap.size, 1, none⟩ x1).setCell ⟨w.heap.size, 2, none⟩ x2).setCell ⟨w.heap.size, 3, none⟩ x3).setCell ⟨w.heap.size, 4, none⟩ x4).setCell ⟨w.heap.size, 5, none⟩ x5).setCell ⟨w.heap.size, 6, none⟩ x6).setCell ⟨w.heap.size, 7, none⟩ x7).setCell ⟨w.heap.size, 8, none⟩ x8).setCell ⟨w.heap.size, 9, none⟩ x9).frozen? ⟨w.heap.size, 0, none⟩ = false) ∧ (((((((((((wx.setCell ⟨w.heap.size, 0, none⟩ x0).setCell ⟨w.heap.size, 1, none⟩ x1).setCell ⟨w.heap.size, 2, none⟩ x2).setCell ⟨w.heap.size, 3, none⟩ x3).setCell ⟨w.heap.size, 4, none⟩ x4).setCell ⟨w.heap.size, 5, none⟩ x5).setCell ⟨w.heap.size, 6, none⟩ x6).setCell ⟨w.heap.size, 7, none⟩ x7).setCell ⟨w.heap.size, 8, none⟩ x8).setCell ⟨w.heap.size, 9, none⟩ x9).cell? ⟨w.heap.size, 1, none⟩ = some (g ((((((((((wx.setCell ⟨w.heap.size, 0, none⟩ x0).setCell ⟨w.heap.size, 1, none⟩ x1).setCell ⟨w.heap.size, 2, none⟩ x2).setCell ⟨w.heap.size, 3, none⟩ x3).setCell ⟨w.heap.size, 4, none⟩ x4).setCell ⟨w.heap.size, 5, none⟩ x5).setCell ⟨w.heap.size, 6, none⟩ x6).setCell ⟨w.heap.size, 7, none⟩ x7).setCell ⟨w.heap.size, 8, none⟩ x8).setCell ⟨w.heap.size, 9, none⟩ x9) 1) ∧ ((((((((((wx.setCell ⟨w.heap.size, 0, none⟩ x0).setCell ⟨w.heap.size, 1, none⟩ x1).setCell ⟨w.heap.size, 2, none⟩ x2).setCell ⟨w.heap.size, 3, none⟩ x3).setCell ⟨w.heap.size, 4, none⟩ x4).setCell ⟨w.heap.size, 5, none⟩ x5).setCell ⟨w.heap.size, 6, none⟩ x6).setCell ⟨w.heap.size, 7, none⟩ x7).setCell ⟨w.heap.size, 8, none⟩ x8).setCell ⟨w.heap.size, 9, none⟩ x9).frozen? ⟨w.heap.size, 1, none⟩ = false) ∧ (((((((((((wx.setCell ⟨w.heap.size, 0, none⟩ x0).setCell ⟨w.heap.size, 1, none⟩ x1).setCell ⟨w.heap.size, 2, none⟩ x2).setCell ⟨w.heap.size, 3, none⟩ x3).setCell ⟨w.heap.size, 4, none⟩ x4).setCell ⟨w.heap.size, 5, none⟩ x5).setCell ⟨w.heap.size, 6, none⟩ x6).setCell ⟨w.heap.size, 7, none⟩ x7).setCell ⟨w.heap.size, 8, none⟩ x8).setCell ⟨w.heap.size, 9, none⟩ x9).cell? ⟨w.heap.size, 2, none⟩ = some (g ((((((((((wx.setCell ⟨w.heap.size, 0, none⟩ x0).setCell ⟨w.heap.size, 1, none⟩ x1).setCell ⟨w.heap.size, 2, none⟩ x2).setCell ⟨w.heap.size, 3, none⟩ x3).setCell ⟨w.heap.size, 4, none⟩ x4).setCell ⟨w.heap.size, 5, none⟩ x5).setCell ⟨w.heap.size, 6, none⟩ x6).setCell ⟨w.heap.size, 7, none⟩ x7).setCell ⟨w.heap.size, 8, none⟩ x8).setCell ⟨w.heap.size, 9, none⟩ x9) 2) ∧ ((((((((((wx.setCell ⟨w.heap.size, 0, none⟩ x0).setCell ⟨w.heap.size, 1, none⟩ x1).setCell ⟨w.heap.size, 2, none⟩ x2).setCell ⟨w.heap.size, 3, none⟩ x3).setCell ⟨w.heap.size, 4, none⟩ x4).setCell ⟨w.heap.size, 5, none⟩ x5).setCell ⟨w.heap.size, 6, none⟩ x6).setCell ⟨w.heap.size, 7, none⟩ x7).setCell ⟨w.heap.size, 8, none⟩ x8).setCell ⟨w.heap.size, 9, none⟩ x9).frozen? ⟨w.heap.size, 2, none⟩ = false) ∧ (((((((((((wx.setCell ⟨w.heap.size, 0, none⟩ x0).setCell ⟨w.heap.size, 1, none⟩ x1).setCell ⟨w.heap.size, 2, none⟩ x2).setCell ⟨w.heap.size, 3, none⟩ x3).setCell ⟨w.heap.size, 4, none⟩ x4).setCell ⟨w.heap.size, 5, none⟩ x5).setCell ⟨w.heap.size, 6, none⟩ x6).setCell ⟨w.heap.size, 7, none⟩ x7).setCell ⟨w.heap.size, 8, none⟩ x8).setCell ⟨w.heap.size, 9, none⟩ x9).cell? ⟨w.heap.size, 3, none⟩ = some (g ((((((((((wx.setCell ⟨w.heap.size, 0, none⟩ x0).setCell ⟨w.heap.size, 1, none⟩ x1).setCell ⟨w.heap.size, 2, none⟩ x2).setCell ⟨w.heap.size, 3, none⟩ x3).setCell ⟨w.heap.size, 4, none⟩ x4).setCell ⟨w.heap.size, 5, none⟩ x5).setCell ⟨w.heap.size, 6, none⟩ x6).setCell ⟨w.heap.size, 7, none⟩ x7).setCell ⟨w.heap.size, 8, none⟩ x8).setCell ⟨w.heap.size, 9, none⟩ x9) 3) ∧ ((((((((((wx.setCell ⟨w.heap.size, 0, none⟩ x0).setCell ⟨w.heap.size, 1, none⟩ x1).setCell ⟨w.heap.size, 2, none⟩ x2).setCell ⟨w.heap.size, 3, none⟩ x3).setCell ⟨w.heap.size, 4, none⟩ x4).setCell ⟨w.heap.size, 5, none⟩ x5).setCell ⟨w.heap.size, 6, none⟩ x6).setCell ⟨w.heap.size, 7, none⟩ x7).setCell ⟨w.heap.size, 8, none⟩ x8).setCell ⟨w.heap.size, 9, none⟩ x9).frozen? ⟨w.heap.size, 3, none⟩ = false) ∧ (((((((((((wx.setCell ⟨w.heap.size, 0, none⟩ x0).setCell ⟨w.heap.size, 1, none⟩ x1).setCell ⟨w.heap.size, 2, none⟩ x2).setCell ⟨w.heap.size, 3, none⟩ x3).setCell ⟨w.heap.size, 4, none⟩ x4).setCell ⟨w.heap.size, 5, none⟩ x5).setCell ⟨w.heap.size, 6, none⟩ x6).setCell ⟨w.heap.size, 7, none⟩ x7).setCell ⟨w.heap.size, 8, none⟩ x8).setCell ⟨w.heap.size, 9, none⟩ x9).cell? ⟨w.heap.size, 4, none⟩ = some (g ((((((((((wx.setCell ⟨w.heap.size, 0, none⟩ x0).setCell ⟨w.heap.size, 1, none⟩ x1).setCell ⟨w.heap.size, 2, none⟩ x2).setCell ⟨w.heap.size, 3, none⟩ x3).setCell ⟨w.heap.size, 4, none⟩ x4).setCell ⟨w.heap.size, 5, none⟩ x5).setCell ⟨w.heap.size, 6, none⟩ x6).setCell ⟨w.heap.size, 7, none⟩ x7).setCell ⟨w.heap.size, 8, none⟩ x8).setCell ⟨w.heap.size, 9, none⟩ x9) 4) ∧ ((((((((((wx.setCell ⟨w.heap.size, 0, none⟩ x0).setCell ⟨w.heap.size, 1, none⟩ x1).setCell ⟨w.heap.size, 2, none⟩ x2).setCell ⟨w.heap.size, 3, none⟩ x3).setCell ⟨w.heap.size, 4, none⟩ x4).setCell ⟨w.heap.size, 5, none⟩ x5).setCell ⟨w.heap.size, 6, none⟩ x6).setCell ⟨w.heap.size, 7, none⟩ x7).setCell ⟨w.heap.size, 8, none⟩ x8).setCell ⟨w.heap.size, 9, none⟩ x9).frozen? ⟨w.heap.size, 4, none⟩ = false) ∧ (((((((((((wx.setCell ⟨w.heap.size, 0, none⟩ x0).setCell ⟨w.heap.size, 1, none⟩ x1).setCell ⟨w.heap.size, 2, none⟩ x2).setCell ⟨w.heap.size, 3, none⟩ x3).setCell ⟨w.heap.size, 4, none⟩ x4).setCell ⟨w.heap.size, 5, none⟩ x5).setCell ⟨w.heap.size, 6, none⟩ x6).setCell ⟨w.heap.size, 7, none⟩ x7).setCell ⟨w.heap.size, 8, none⟩ x8).setCell ⟨w.heap.size, 9, none⟩ x9).cell? ⟨w.heap.size, 5, none⟩ = some (g ((((((((((wx.setCell ⟨w.heap.size, 0, none⟩ x0).setCell ⟨w.heap.size, 1, none⟩ x1).setCell ⟨w.heap.size, 2, none⟩ x2).setCell ⟨w.heap.size, 3, none⟩ x3).setCell ⟨w.heap.size, 4, none⟩ x4).setCell ⟨w.heap.size, 5, none⟩ x5).setCell ⟨w.heap.size, 6, none⟩ x6).setCell ⟨w.heap.size, 7, none⟩ x7).setCell ⟨w.heap.size, 8, none⟩ x8).setCell ⟨w.heap.size, 9, none⟩ x9) 5) ∧ ((((((((((wx.setCell ⟨w.heap.size, 0, none⟩ x0).setCell ⟨w.heap.size, 1, none⟩ x1).setCell ⟨w.heap.size, 2, none⟩ x2).setCell ⟨w.heap.size, 3, none⟩ x3).setCell ⟨w.heap.size, 4, none⟩ x4).setCell ⟨w.heap.size, 5, none⟩ x5).setCell ⟨w.heap.size, 6, none⟩ x6).setCell ⟨w.heap.size, 7, none⟩ x7).setCell ⟨w.heap.size, 8, none⟩ x8).setCell ⟨w.heap.size, 9, none⟩ x9).frozen? ⟨w.heap.size, 5, none⟩ = false) ∧ (((((((((((wx.setCell ⟨w.heap.size, 0, none⟩ x0).setCell ⟨w.heap.size, 1, none⟩ x1).setCell ⟨w.heap.size, 2, none⟩ x2).setCell ⟨w.heap.size, 3, none⟩ x3).setCell ⟨w.heap.size, 4, none⟩ x4).setCell ⟨w.heap.size, 5, none⟩ x5).setCell ⟨w.heap.size, 6, none⟩ x6).setCell ⟨w.heap.size, 7, none⟩ x7).setCell ⟨w.heap.size, 8, none⟩ x8).setCell ⟨w.heap.size, 9, none⟩ x9).cell? ⟨w.heap.size, 6, none⟩ = some (g ((((((((((wx.setCell ⟨w.heap.size, 0, none⟩ x0).setCell ⟨w.heap.size, 1, none⟩ x1).setCell ⟨w.heap.size, 2, none⟩ x2).setCell ⟨w.heap.size, 3, none⟩ x3).setCell ⟨w.heap.size, 4, none⟩ x4).setCell ⟨w.heap.size, 5, none⟩ x5).setCell ⟨w.heap.size, 6, none⟩ x6).setCell ⟨w.heap.size, 7, none⟩ x7).setCell ⟨w.heap.size, 8, none⟩ x8).setCell ⟨w.heap.size, 9, none⟩ x9) 6) ∧ ((((((((((wx.setCell ⟨w.heap.size, 0, none⟩ x0).setCell ⟨w.heap.size, 1, none⟩ x1).setCell ⟨w.heap.size, 2, none⟩ x2).setCell ⟨w.heap.size, 3, none⟩ x3).setCell ⟨w.heap.size, 4, none⟩ x4).setCell ⟨w.heap.size, 5, none⟩ x5).setCell ⟨w.heap.size, 6, none⟩ x6).setCell ⟨w.heap.size, 7, none⟩ x7).setCell ⟨w.heap.size, 8, none⟩ x8).setCell ⟨w.heap.size, 9, none⟩ x9).frozen? ⟨w.heap.size, 6, none⟩ = false) ∧ (((((((((((wx.setCell ⟨w.heap.size, 0, none⟩ x0).setCell ⟨w.heap.size, 1, none⟩ x1).setCell ⟨w.heap.size, 2, none⟩ x2).setCell ⟨w.heap.size, 3, none⟩ x3).setCell ⟨w.heap.size, 4, none⟩ x4).setCell ⟨w.heap.size, 5, none⟩ x5).setCell ⟨w.heap.size, 6, none⟩ x6).setCell ⟨w.heap.size, 7, none⟩ x7).setCell ⟨w.heap.size, 8, none⟩ x8).setCell ⟨w.heap.size, 9, none⟩ x9).cell? ⟨w.heap.size, 7, none⟩ = some (g ((((((((((wx.setCell ⟨w.heap.size, 0, none⟩ x0).setCell ⟨w.heap.size, 1, none⟩ x1).setCell ⟨w.heap.size, 2, none⟩ x2).setCell ⟨w.heap.size, 3, none⟩ x3).setCell ⟨w.heap.size, 4, none⟩ x4).setCell ⟨w.heap.size, 5, none⟩ x5).setCell ⟨w.heap.size, 6, none⟩ x6).setCell ⟨w.heap.size, 7, none⟩ x7).setCell ⟨w.heap.size, 8, none⟩ x8).setCell ⟨w.heap.size, 9, none⟩ x9) 7) ∧ ((((((((((wx.setCell ⟨w.heap.size, 0, none⟩ x0).setCell ⟨w.heap.size, 1, none⟩ x1).setCell ⟨w.heap.size, 2, none⟩ x2).setCell ⟨w.heap.size, 3, none⟩ x3).setCell ⟨w.heap.size, 4, none⟩ x4).setCell ⟨w.heap.size, 5, none⟩ x5).setCell ⟨w.heap.size, 6, none⟩ x6).setCell ⟨w.heap.size, 7, none⟩ x7).setCell ⟨w.heap.size, 8, none⟩ x8).setCell ⟨w.heap.size, 9, none⟩ x9).frozen? ⟨w.heap.size, 7, none⟩ = false) ∧ (((((((((((wx.setCell ⟨w.heap.size, 0, none⟩ x0).setCell ⟨w.heap.size, 1, none⟩ x1).setCell ⟨w.heap.size, 2, none⟩ x2).setCell ⟨w.heap.size, 3, none⟩ x3).setCell ⟨w.heap.size, 4, none⟩ x4).setCell ⟨w.heap.size, 5, none⟩ x5).setCell ⟨w.heap.size, 6, none⟩ x6).setCell ⟨w.heap.size, 7, none⟩ x7).setCell ⟨w.heap.size, 8, none⟩ x8).setCell ⟨w.heap.size, 9, none⟩ x9).cell? ⟨w.heap.size, 8, none⟩ = some (g ((((((((((wx.setCell ⟨w.heap.size, 0, none⟩ x0).setCell ⟨w.heap.size, 1, none⟩ x1).setCell ⟨w.heap.size, 2, none⟩ x2).setCell ⟨w.heap.size, 3, none⟩ x3).setCell ⟨w.heap.size, 4, none⟩ x4).setCell ⟨w.heap.size, 5, none⟩ x5).setCell ⟨w.heap.size, 6, none⟩ x6).setCell ⟨w.heap.size, 7, none⟩ x7).setCell ⟨w.heap.size, 8, none⟩ x8).setCell ⟨w.heap.size, 9, none⟩ x9) 8) ∧ ((((((((((wx.setCell ⟨w.heap.size, 0, none⟩ x0).setCell ⟨w.heap.size, 1, none⟩ x1).setCell ⟨w.heap.size, 2, none⟩ x2).setCell ⟨w.heap.size, 3, none⟩ x3).setCell ⟨w.heap.size, 4, none⟩ x4).setCell ⟨w.heap.size, 5, none⟩ x5).setCell ⟨w.heap.size, 6, none⟩ x6).setCell ⟨w.heap.size, 7, none⟩ x7).setCell ⟨w.heap.size, 8, none⟩ x8).setCell ⟨w.heap.size, 9, none⟩ x9).frozen? ⟨w.heap.size, 8, none⟩ = false) ∧ (((((((((((wx.setCell ⟨w.heap.size, 0, none⟩ x0).setCell ⟨w.heap.size, 1, none⟩ x1).setCell ⟨w.heap.size, 2, none⟩ x2).setCell ⟨w.heap.size, 3, none⟩ x3).setCell ⟨w.heap.size, 4, none⟩ x4).setCell ⟨w.heap.size, 5, none⟩ x5).setCell ⟨w.heap.size, 6, none⟩ x6).setCell ⟨w.heap.size, 7, none⟩ x7).setCell ⟨w.heap.size, 8, none⟩ x8).setCell ⟨w.heap.size, 9, none⟩ x9).cell? ⟨w.heap.size, 9, none⟩ = some (g ((((((((((wx.setCell ⟨w.heap.size, 0, none⟩ x0).setCell ⟨w.heap.size, 1, none⟩ x1).setCell ⟨w.heap.size, 2, none⟩ x2).setCell ⟨w.heap.size, 3, none⟩ x3).setCell ⟨w.heap.size, 4, none⟩ x4).setCell ⟨w.heap.size, 5, none⟩ x5).setCell ⟨w.heap.size, 6, none⟩ x6).setCell ⟨w.heap.size, 7, none⟩ x7).setCell ⟨w.heap.size, 8, none⟩ x8).setCell ⟨w.heap.size, 9, none⟩ x9) 9) ∧ ((((((((((wx.setCell ⟨w.heap.size, 0, none⟩ x0).setCell ⟨w.heap.size, 1, none⟩ x1).setCell ⟨w.heap.size, 2, none⟩ x2).setCell ⟨w.heap.size, 3, none⟩ x3).setCell ⟨w.heap.size, 4, none⟩ x4).setCell ⟨w.heap.size, 5, none⟩ x5).setCell ⟨w.heap.size, 6, none⟩ x6).setCell ⟨w.heap.size, 7, none⟩ x7).setCell ⟨w.heap.size, 8, none⟩ x8).setCell ⟨w.heap.size, 9, none⟩ x9).frozen? ⟨w.heap.size, 9, none⟩ = false))) := fun wx x0 x1 x2 x3 x4 x5 x6 x7 x8 x9 h => by
      obtain ⟨⟨p2, p3⟩, q0, q1, q2⟩ := (CS.out wx h).2
      refine ⟨⟨⟨?_, ?_⟩, ?_, ?_, ?_⟩, TG.out _ _ _ _ _ _ _ _ _ _ _ (Ten.put (CS.out wx h).1 x0 x1 x2 x3 x4 x5 x6 x7 x8 x9)⟩
      · simp only [set_far lt1]; exact p2
      · simp only [set_far lt1]; exact p3
      · simp only [set_far lt2]; exact q0
      · simp only [set_far lt2]; exact q1
      · simp only [set_far lt2]; exact q2
    have TT : Hid (∀ wx : World, SS wx → Ten wx w.heap.size (.bool false) (.string ⟨#[]⟩) (.int .i64 0) (.bool false) (.string ⟨#[]⟩) (.int .i64 0) (.bool false) (.string ⟨#[]⟩) (.int .i64 0) (.bool false)) := fun wx h => (CS.out wx h).1
    have pc1 := (aL.cell (cell_lt PC1.out)).trans PC1.out
    clear P3 aL hbL HB2 ZB MS TZ PC CS lt1 lt2 TG hg
    go_upto_region 6 with fail
    generalize w2.alloc (.cells #[.bool DA.neg, .string t2, .int .i64 DA.e] 25) = wL at *
    have T0 := hid (KS.out _ _ S0.out (drew_nil _))
    clear S0
    go_region_held3 (fun w' => ((w'.cell? ⟨w1.heap.size, 2, none⟩ = some (.int .u64 0) ∧ w'.cell? ⟨w1.heap.size, 3, none⟩ = some (.int .i64 0)) ∧ (w'.cell? ⟨w2.heap.size, 0, none⟩ = some (.bool DA.neg) ∧ w'.cell? ⟨w2.heap.size, 1, none⟩ = some (.string t2) ∧ w'.cell? ⟨w2.heap.size, 2, none⟩ = some (.int .i64 DA.e))) ∧ (w'.cell? ⟨w.heap.size, 0, none⟩ = some (g w' 0) ∧ w'.frozen? ⟨w.heap.size, 0, none⟩ = false) ∧ (w'.cell? ⟨w.heap.size, 1, none⟩ = some (g w' 1) ∧ w'.frozen? ⟨w.heap.size, 1, none⟩ = false) ∧ (w'.cell? ⟨w.heap.size, 2, none⟩ = some (g w' 2) ∧ w'.frozen? ⟨w.heap.size, 2, none⟩ = false) ∧ (w'.cell? ⟨w.heap.size, 3, none⟩ = some (g w' 3) ∧ w'.frozen? ⟨w.heap.size, 3, none⟩ = false) ∧ (w'.cell? ⟨w.heap.size, 4, none⟩ = some (g w' 4) ∧ w'.frozen? ⟨w.heap.size, 4, none⟩ = false) ∧ (w'.cell? ⟨w.heap.size, 5, none⟩ = some (g w' 5) ∧ w'.frozen? ⟨w.heap.size, 5, none⟩ = false) ∧ (w'.cell? ⟨w.heap.size, 6, none⟩ = some (g w' 6) ∧ w'.frozen? ⟨w.heap.size, 6, none⟩ = false) ∧ (w'.cell? ⟨w.heap.size, 7, none⟩ = some (g w' 7) ∧ w'.frozen? ⟨w.heap.size, 7, none⟩ = false) ∧ (w'.cell? ⟨w.heap.size, 8, none⟩ = some (g w' 8) ∧ w'.frozen? ⟨w.heap.size, 8, none⟩ = false) ∧ (w'.cell? ⟨w.heap.size, 9, none⟩ = some (g w' 9) ∧ w'.frozen? ⟨w.heap.size, 9, none⟩ = false)) (first | (with_reducible exact FS.out _ _ _ _ _ _ _ _ _ _ _ T2.out) | (with_reducible exact FT.out _ T2.out) | (with_reducible exact FT.out _ T1.out) | (with_reducible exact FT.out _ T0.out)) (first
      | (go_at_call 44; with_reducible refine (EV.out _).mono ?_; rintro e w5 ⟨t1, rfl, HT1, hB⟩; (first | (have T2 := hid (KS.out _ _ T1.out hB); clear hB) | (have T1 := hid (KS.out _ _ T0.out hB); clear hB)))
      | (go_at_call 45; with_reducible refine (HI.out _).mono ?_; rintro e w5 ⟨t3, rfl, HT3, hB⟩; (first | (have T2 := hid (KS.out _ _ T1.out hB); clear hB) | (have T1 := hid (KS.out _ _ T0.out hB); clear hB))))
    have KV := hid (G.out t1 t2 t3 HT1.out HT2.out HT3.out)
    have KB := hid (BS.out _ T2.out)
    have KT := hid (TT.out _ T2.out)
    clear HT1 HT2 HT3 FT FS TT T0 T1 T2 KS BS G HI EV
    go_wp2_with fail
    (try simp only [Exit.inBlock, Exit.then])
    refine bodyPost_ret (results_cell_row rfl _ _ w.heap.size 51 _ (0, 0) _ rfl (KT.out.put _ _ _ _ _ _ _ _ _ _) Tryz.underlying51 rfl (by kernel_rfl)) rfl ?_
    exact ⟨_, rfl, KV.out, set10_below KB.out (Nat.le_refl _)⟩
  · obtain ⟨k2, k3⟩ := Ie.dec_fin2 a hp hf
    obtain ⟨k4, k5⟩ := Sh.clsP hp hf
    have xb := Sh.ex_le hf
    have mb := Ie.man_nn a a0
    rw [k2, k3] at D
    have EV' := fun wx : World => zexact_any (Ie.man a) ((Ie.ex a : Int) - 1074) wx mb.1 (by omega) (by omega) (by omega)
    rw [Sh.zV] at EV'
    have EV := hid (dec_open EV')
    have DN := hid (fun wx : World => down_any a wx a0 (by omega))
    rw [Sh.dnP hp hf] at DN
    have HL' := fun wx : World => zhalfway_any (a - 1) wx (by omega) (by omega)
    rw [← Sh.AP hp] at HL'
    have HL := hid (dec_open HL')
    clear EV' HL' k2 k3 xb mb k4
    generalize decide (9223372036854775808 ≤ a) = neg at *
    generalize decide (a % 2 = 0) = cb at *
    generalize Sh.dd 0 = D0 at *
    generalize Sh.dd (Sh.V a) = DV at *
    generalize Sh.dd (Sh.A a) = DA at *
    generalize Sh.dd (Sh.B a) = DB at *
    generalize Ie.cls a = c at *
    generalize Ie.man a = m at *
    generalize (Ie.ex a : Int) - 1074 = x at *
    go_enter Tryz.func25, Tryz.ntmps25
    go_wp2_with fail
    refine (AB.out _).mono ?_
    rintro e wz ⟨rfl, hz⟩
    subst hz
    go_wp2_with fail
    refine (D.out _).mono ?_
    rintro e w1 ⟨rfl, B1⟩
    have PC : Hid ((w1.alloc (.cells #[.bool neg, .int .i64 c, .int .u64 m, .int .i64 x] 72)).cell? ⟨w1.heap.size, 2, none⟩ = some (.int .u64 m) ∧ (w1.alloc (.cells #[.bool neg, .int .i64 c, .int .u64 m, .int .i64 x] 72)).cell? ⟨w1.heap.size, 3, none⟩ = some (.int .i64 x)) := ⟨(RB.new w1 72 _).cell 2 _ rfl, (RB.new w1 72 _).cell 3 _ rfl⟩
    have HS1 : Hid (w.heap.size < w1.heap.size) := Nat.lt_of_lt_of_le (RB.lt TZ.out) B1.size
    have PC0 : Hid ((w1.alloc (.cells #[.bool neg, .int .i64 c, .int .u64 m, .int .i64 x] 72)).cell? ⟨w1.heap.size, 1, none⟩ = some (.int .i64 c)) := (RB.new w1 72 _).cell 1 _ rfl
    have HB1 := hid (B1.trans ((alloc_b w1 (.cells #[.bool neg, .int .i64 c, .int .u64 m, .int .i64 x] 72)).mono B1.size))
    clear B1 D AB
    go_wp2_with fail
    refine (E0.out _).mono ?_
    rintro e w2 ⟨t0, rfl, HT0, B2⟩
    have HB2 := hid (HB1.out.trans (B2.mono HB1.out.size))
    have PC : Hid (w2.cell? ⟨w1.heap.size, 2, none⟩ = some (.int .u64 m) ∧ w2.cell? ⟨w1.heap.size, 3, none⟩ = some (.int .i64 x)) := ⟨(B2.cell (cell_lt PC.out.1)).trans PC.out.1, (B2.cell (cell_lt PC.out.2)).trans PC.out.2⟩
    have HBs : Hid (w.heap.size < w1.heap.size ∧ w1.heap.size < w2.heap.size) := ⟨HS1.out, Nat.lt_of_lt_of_le (RB.lt (RB.new w1 72 _)) B2.size⟩
    have PC1 : Hid (w2.cell? ⟨w1.heap.size, 1, none⟩ = some (.int .i64 c)) := (B2.cell (cell_lt PC0.out)).trans PC0.out
    have aL := alloc_b w2 (.cells #[.bool D0.neg, .string t0, .int .i64 D0.e] 25)
    have pc1 := (aL.cell (cell_lt PC1.out)).trans PC1.out
    have P3 := hid (FR3.new w2 (.bool D0.neg) (.string t0) (.int .i64 D0.e))
    have HBL := hid (HB2.out.trans (aL.mono HB2.out.size))
    have PCL : Hid ((w2.alloc (.cells #[.bool D0.neg, .string t0, .int .i64 D0.e] 25)).cell? ⟨w1.heap.size, 2, none⟩ = some (.int .u64 m) ∧ (w2.alloc (.cells #[.bool D0.neg, .string t0, .int .i64 D0.e] 25)).cell? ⟨w1.heap.size, 3, none⟩ = some (.int .i64 x)) := ⟨(aL.cell (cell_lt PC.out.1)).trans PC.out.1, (aL.cell (cell_lt PC.out.2)).trans PC.out.2⟩
    clear B2 E0 HB1 aL PC PC0 PC1 HB2 HT0
    go_wp2_with fail
    refine (DN.out _).mono ?_
    rintro e wz ⟨rfl, hz⟩
    subst hz
    go_wp2_with fail
    refine (HL.out _).mono ?_
    rintro e w3 ⟨t2, rfl, HT2, B3⟩
    have HB3 := hid (HBL.out.trans (B3.mono HBL.out.size))
    have R3 := hid (P3.out.below B3 P3.out.lt)
    have PC : Hid (w3.cell? ⟨w1.heap.size, 2, none⟩ = some (.int .u64 m) ∧ w3.cell? ⟨w1.heap.size, 3, none⟩ = some (.int .i64 x)) := ⟨(B3.cell (cell_lt PCL.out.1)).trans PCL.out.1, (B3.cell (cell_lt PCL.out.2)).trans PCL.out.2⟩
    obtain ⟨⟨lc0, lc1, lc2⟩, lf0, lf1, lf2⟩ := R3.out.cells
    clear B3 PCL P3 HL DN pc1
    have lt3 : w2.heap.size ≠ w1.heap.size := by have := HBs.out; omega
    have hbL : Hid (Below w.heap.size w (((w3.setCell ⟨w2.heap.size, 0, none⟩ (.bool DA.neg)).setCell ⟨w2.heap.size, 1, none⟩ (.string t2)).setCell ⟨w2.heap.size, 2, none⟩ (.int .i64 DA.e))) := fset3_below (ZB.out.trans (HB3.out.mono ZB.out.size)) (by have := HBs.out; omega)
    have TL : Hid (Ten (((w3.setCell ⟨w2.heap.size, 0, none⟩ (.bool DA.neg)).setCell ⟨w2.heap.size, 1, none⟩ (.string t2)).setCell ⟨w2.heap.size, 2, none⟩ (.int .i64 DA.e)) w.heap.size (.bool false) (.string ⟨#[]⟩) (.int .i64 0) (.bool false) (.string ⟨#[]⟩) (.int .i64 0) (.bool false) (.string ⟨#[]⟩) (.int .i64 0) (.bool false)) :=
      RB.far (RB.far (RB.far (RB.below TZ.out HB3.out (RB.lt TZ.out)) (by have := HBs.out; omega)) (by have := HBs.out; omega)) (by have := HBs.out; omega)
    obtain ⟨SS, KS, CS, BS, MS⟩ := state (fun w' => Ten w' w.heap.size (.bool false) (.string ⟨#[]⟩) (.int .i64 0) (.bool false) (.string ⟨#[]⟩) (.int .i64 0) (.bool false) (.string ⟨#[]⟩) (.int .i64 0) (.bool false) ∧ (w'.cell? ⟨w1.heap.size, 2, none⟩ = some (.int .u64 m) ∧ w'.cell? ⟨w1.heap.size, 3, none⟩ = some (.int .i64 x)) ∧ (w'.cell? ⟨w2.heap.size, 0, none⟩ = some (.bool DA.neg) ∧ w'.cell? ⟨w2.heap.size, 1, none⟩ = some (.string t2) ∧ w'.cell? ⟨w2.heap.size, 2, none⟩ = some (.int .i64 DA.e))) w
      (Stays.and (fun _ _ g hB => RB.below g hB (RB.lt g)) (((Stays.cell _ _).and (Stays.cell _ _)).and ((Stays.cell _ _).and ((Stays.cell _ _).and (Stays.cell _ _)))))
    have S0 := hid (MS.out _ ⟨TL.out, ⟨by simp only [set_far lt3]; exact PC.out.1, by simp only [set_far lt3]; exact PC.out.2⟩, (R3.out.put _ _ _).cells.1⟩ hbL.out)
    have lt1 : w.heap.size ≠ w1.heap.size := by have := HBs.out; omega
    have lt2 : w.heap.size ≠ w2.heap.size := by have := HBs.out; omega
    obtain ⟨g, hg⟩ : ∃ g : World → Nat → Value, Hid (∀ w' i, g w' i = (w'.cell? ⟨w.heap.size, i, none⟩).getD (.bool false)) := ⟨_, fun _ _ => rfl⟩
    have TG : Hid (∀ (wx : World) (x0 x1 x2 x3 x4 x5 x6 x7 x8 x9 : Value), Ten wx w.heap.size x0 x1 x2 x3 x4 x5 x6 x7 x8 x9 → (wx.cell? ⟨w.heap.size, 0, none⟩ = some (g wx 0) ∧ wx.frozen? ⟨w.heap.size, 0, none⟩ = false) ∧ (wx.cell? ⟨w.heap.size, 1, none⟩ = some (g wx 1) ∧ wx.frozen? ⟨w.heap.size, 1, none⟩ = false) ∧ (wx.cell? ⟨w.heap.size, 2, none⟩ = some (g wx 2) ∧ wx.frozen? ⟨w.heap.size, 2, none⟩ = false) ∧ (wx.cell? ⟨w.heap.size, 3, none⟩ = some (g wx 3) ∧ wx.frozen? ⟨w.heap.size, 3, none⟩ = false) ∧ (wx.cell? ⟨w.heap.size, 4, none⟩ = some (g wx 4) ∧ wx.frozen? ⟨w.heap.size, 4, none⟩ = false) ∧ (wx.cell? ⟨w.heap.size, 5, none⟩ = some (g wx 5) ∧ wx.frozen? ⟨w.heap.size, 5, none⟩ = false) ∧ (wx.cell? ⟨w.heap.size, 6, none⟩ = some (g wx 6) ∧ wx.frozen? ⟨w.heap.size, 6, none⟩ = false) ∧ (wx.cell? ⟨w.heap.size, 7, none⟩ = some (g wx 7) ∧ wx.frozen? ⟨w.heap.size, 7, none⟩ = false) ∧ (wx.cell? ⟨w.heap.size, 8, none⟩ = some (g wx 8) ∧ wx.frozen? ⟨w.heap.size, 8, none⟩ = false) ∧ (wx.cell? ⟨w.heap.size, 9, none⟩ = some (g wx 9) ∧ wx.frozen? ⟨w.heap.size, 9, none⟩ = false)) := by
      intro wx x0 x1 x2 x3 x4 x5 x6 x7 x8 x9 h
      have key : ∀ i v, wx.cell? ⟨w.heap.size, i, none⟩ = some v → wx.cell? ⟨w.heap.size, i, none⟩ = some (g wx i) := fun i v q => by rw [hg.out, q]; rfl
      exact ⟨⟨key 0 _ (RB.cell h 0 _ rfl), RB.free h 0⟩, ⟨key 1 _ (RB.cell h 1 _ rfl), RB.free h 1⟩, ⟨key 2 _ (RB.cell h 2 _ rfl), RB.free h 2⟩, ⟨key 3 _ (RB.cell h 3 _ rfl), RB.free h 3⟩, ⟨key 4 _ (RB.cell h 4 _ rfl), RB.free h 4⟩, ⟨key 5 _ (RB.cell h 5 _ rfl), RB.free h 5⟩, ⟨key 6 _ (RB.cell h 6 _ rfl), RB.free h 6⟩, ⟨key 7 _ (RB.cell h 7 _ rfl), RB.free h 7⟩, ⟨key 8 _ (RB.cell h 8 _ rfl), RB.free h 8⟩, ⟨key 9 _ (RB.cell h 9 _ rfl), RB.free h 9⟩⟩
    have FT : Hid (∀ wx : World, SS wx → (((wx.cell? ⟨w1.heap.size, 2, none⟩ = some (.int .u64 m) ∧ wx.cell? ⟨w1.heap.size, 3, none⟩ = some (.int .i64 x)) ∧ (wx.cell? ⟨w2.heap.size, 0, none⟩ = some (.bool DA.neg) ∧ wx.cell? ⟨w2.heap.size, 1, none⟩ = some (.string t2) ∧ wx.cell? ⟨w2.heap.size, 2, none⟩ = some (.int .i64 DA.e))) ∧ (wx.cell? ⟨w.heap.size, 0, none⟩ = some (g wx 0) ∧ wx.frozen? ⟨w.heap.size, 0, none⟩ = false) ∧ (wx.cell? ⟨w.heap.size, 1, none⟩ = some (g wx 1) ∧ wx.frozen? ⟨w.heap.size, 1, none⟩ = false) ∧ (wx.cell? ⟨w.heap.size, 2, none⟩ = some (g wx 2) ∧ wx.frozen? ⟨w.heap.size, 2, none⟩ = false) ∧ (wx.cell? ⟨w.heap.size, 3, none⟩ = some (g wx 3) ∧ wx.frozen? ⟨w.heap.size, 3, none⟩ = false) ∧ (wx.cell? ⟨w.heap.size, 4, none⟩ = some (g wx 4) ∧ wx.frozen? ⟨w.heap.size, 4, none⟩ = false) ∧ (wx.cell? ⟨w.heap.size, 5, none⟩ = some (g wx 5) ∧ wx.frozen? ⟨w.heap.size, 5, none⟩ = false) ∧ (wx.cell? ⟨w.heap.size, 6, none⟩ = some (g wx 6) ∧ wx.frozen? ⟨w.heap.size, 6, none⟩ = false) ∧ (wx.cell? ⟨w.heap.size, 7, none⟩ = some (g wx 7) ∧ wx.frozen? ⟨w.heap.size, 7, none⟩ = false) ∧ (wx.cell? ⟨w.heap.size, 8, none⟩ = some (g wx 8) ∧ wx.frozen? ⟨w.heap.size, 8, none⟩ = false) ∧ (wx.cell? ⟨w.heap.size, 9, none⟩ = some (g wx 9) ∧ wx.frozen? ⟨w.heap.size, 9, none⟩ = false))) := fun wx h => ⟨(CS.out wx h).2, TG.out wx _ _ _ _ _ _ _ _ _ _ (CS.out wx h).1⟩
    have FS : Hid (∀ (wx : World) (x0 x1 x2 x3 x4 x5 x6 x7 x8 x9 : Value), SS wx → (((((((((((((wx.setCell ⟨w.heap.size, 0, none⟩ x0).setCell ⟨w.heap.size, 1, none⟩ x1).setCell ⟨w.heap.size, 2, none⟩ x2).setCell ⟨w.heap.size, 3, none⟩ x3).setCell ⟨w.heap.size, 4, none⟩ x4).setCell ⟨w.heap.size, 5, none⟩ x5).setCell ⟨w.heap.size, 6, none⟩ x6).setCell ⟨w.heap.size, 7, none⟩ x7).setCell ⟨w.heap.size, 8, none⟩ x8).setCell ⟨w.heap.size, 9, none⟩ x9).cell? ⟨w1.heap.size, 2, none⟩ = some (.int .u64 m) ∧ ((((((((((wx.setCell ⟨w.heap.size, 0, none⟩ x0).setCell ⟨w.heap.size, 1, none⟩ x1).setCell ⟨w.heap.size, 2, none⟩ x2).setCell ⟨w.heap.size, 3, none⟩ x3).setCell ⟨w.heap.size, 4, none⟩ x4).setCell ⟨w.heap.size, 5, none⟩ x5).setCell ⟨w.heap.size, 6, none⟩ x6).setCell ⟨w.heap.size, 7, none⟩ x7).setCell ⟨w.heap.size, 8, none⟩ x8).setCell ⟨w.heap.size, 9, none⟩ x9).cell? ⟨w1.heap.size, 3, none⟩ = some (.int .i64 x)) ∧ (((((((((((wx.setCell ⟨w.heap.size, 0, none⟩ x0).setCell ⟨w.heap.size, 1, none⟩ x1).setCell ⟨w.heap.size, 2, none⟩ x2).setCell ⟨w.heap.size, 3, none⟩ x3).setCell ⟨w.heap.size, 4, none⟩ x4).setCell ⟨w.heap.size, 5, none⟩ x5).setCell ⟨w.heap.size, 6, none⟩ x6).setCell ⟨w.heap.size, 7, none⟩ x7).setCell ⟨w.heap.size, 8, none⟩ x8).setCell ⟨w.heap.size, 9, none⟩ x9).cell? ⟨w2.heap.size, 0, none⟩ = some (.bool DA.neg) ∧ ((((((((((wx.setCell ⟨w.heap.size, 0, none⟩ x0).setCell ⟨w.heap.size, 1, none⟩ x1).setCell ⟨w.heap.size, 2, none⟩ x2).setCell ⟨w.heap.size, 3, none⟩ x3).setCell ⟨w.heap.size, 4, none⟩ x4).setCell ⟨w.heap.size, 5, none⟩ x5).setCell ⟨w.heap.size, 6, none⟩ x6).setCell ⟨w.heap.size, 7, none⟩ x7).setCell ⟨w.heap.size, 8, none⟩ x8).setCell ⟨w.heap.size, 9, none⟩ x9).cell? ⟨w2.heap.size, 1, none⟩ = some (.string t2) ∧ ((((((((((wx.setCell ⟨w.heap.size, 0, none⟩ x0).setCell ⟨w.heap.size, 1, none⟩ x1).setCell ⟨w.heap.size, 2, none⟩ x2).setCell ⟨w.heap.size, 3, none⟩ x3).setCell ⟨w.heap.size, 4, none⟩ x4).setCell ⟨w.heap.size, 5, none⟩ x5).setCell ⟨w.heap.size, 6, none⟩ x6).setCell ⟨w.heap.size, 7, none⟩ x7).setCell ⟨w.heap.size, 8, none⟩ x8).setCell ⟨w.heap.size, 9, none⟩ x9).cell? ⟨w2.heap.size, 2, none⟩ = some (.int .i64 DA.e))) ∧ (((((((((((wx.setCell ⟨w.heap.size, 0, none⟩ x0).setCell ⟨w.heap.size, 1, none⟩ x1).setCell ⟨w.heap.size, 2, none⟩ x2).setCell ⟨w.heap.size, 3, none⟩ x3).setCell ⟨w.heap.size, 4, none⟩ x4).setCell ⟨w.heap.size, 5, none⟩ x5).setCell ⟨w.heap.size, 6, none⟩ x6).setCell ⟨w.heap.size, 7, none⟩ x7).setCell ⟨w.heap.size, 8, none⟩ x8).setCell ⟨w.heap.size, 9, none⟩ x9).cell? ⟨w.heap.size, 0, none⟩ = some (g ((((((((((wx.setCell ⟨w.heap.size, 0, none⟩ x0).setCell ⟨w.heap.size, 1, none⟩ x1).setCell ⟨w.heap.size, 2, none⟩ x2).setCell ⟨w.heap.size, 3, none⟩ x3).setCell ⟨w.heap.size, 4, none⟩ x4).setCell ⟨w.heap.size, 5, none⟩ x5).setCell ⟨w.heap.size, 6, none⟩ x6).setCell ⟨w.heap.size, 7, none⟩ x7).setCell ⟨w.heap.size, 8, none⟩ x8).setCell ⟨w.heap.size, 9, none⟩ x9) 0) ∧ ((((((((((wx.setCell ⟨w.heap.size, 0, none⟩ x0).setCell ⟨w.heap.size, 1, none⟩ x1).setCell ⟨w.heap.size, 2, none⟩ x2).setCell ⟨w.heap.size, 3, none⟩ x3).setCell ⟨w.heap.size, 4, none⟩ x4).setCell ⟨w.heap.size, 5, none⟩ x5).setCell ⟨w.heap.size, 6, none⟩ x6).setCell ⟨w.heap.size, 7, none⟩ x7).setCell ⟨w.heap.size, 8, none⟩ x8).setCell ⟨w.heap.size, 9, none⟩ x9).frozen? ⟨w.heap.size, 0, none⟩ = false) ∧ (((((((((((wx.setCell ⟨w.heap.size, 0, none⟩ x0).setCell ⟨w.heap.size, 1, none⟩ x1).setCell ⟨w.heap.size, 2, none⟩ x2).setCell ⟨w.heap.size, 3, none⟩ x3).setCell ⟨w.heap.size, 4, none⟩ x4).setCell ⟨w.heap.size, 5, none⟩ x5).setCell ⟨w.heap.size, 6, none⟩ x6).setCell ⟨w.heap.size, 7, none⟩ x7).setCell ⟨w.heap.size, 8, none⟩ x8).setCell ⟨w.heap.size, 9, none⟩ x9).cell? ⟨w.heap.size, 1, none⟩ = some (g ((((((((((wx.setCell ⟨w.heap.size, 0, none⟩ x0).setCell ⟨w.heap.size, 1, none⟩ x1).setCell ⟨w.heap.size, 2, none⟩ x2).setCell ⟨w.heap.size, 3, none⟩ x3).setCell ⟨w.heap.size, 4, none⟩ x4).setCell ⟨w.heap.size, 5, none⟩ x5).setCell ⟨w.heap.size, 6, none⟩ x6).setCell ⟨w.heap.size, 7, none⟩ x7).setCell ⟨w.heap.size, 8, none⟩ x8).setCell ⟨w.heap.size, 9, none⟩ x9) 1) ∧ ((((((((((wx.setCell ⟨w.heap.size, 0, none⟩ x0).setCell ⟨w.heap.size, 1, none⟩ x1).setCell ⟨w.heap.size, 2, none⟩ x2).setCell ⟨w.heap.size, 3, none⟩ x3).setCell ⟨w.heap.size, 4, none⟩ x4).setCell ⟨w.heap.size, 5, none⟩ x5).setCell ⟨w.heap.size, 6, none⟩ x6).setCell ⟨w.heap.size, 7, none⟩ x7).setCell ⟨w.heap.size, 8, none⟩ x8).setCell ⟨w.heap.size, 9, none⟩ x9).frozen? ⟨w.heap.size, 1, none⟩ = false) ∧ (((((((((((wx.setCell ⟨w.heap.size, 0, none⟩ x0).setCell ⟨w.heap.size, 1, none⟩ x1).setCell ⟨w.heap.size, 2, none⟩ x2).setCell ⟨w.heap.size, 3, none⟩ x3).setCell ⟨w.heap.size, 4, none⟩ x4).setCell ⟨w.heap.size, 5, none⟩ x5).setCell ⟨w.heap.size, 6, none⟩ x6).setCell ⟨w.heap.size, 7, none⟩ x7).setCell ⟨w.heap.size, 8, none⟩ x8).setCell ⟨w.heap.size, 9, none⟩ x9).cell? ⟨w.heap.size, 2, none⟩ = some (g ((((((((((wx.setCell ⟨w.heap.size, 0, none⟩ x0).setCell ⟨w.heap.size, 1, none⟩ x1).setCell ⟨w.heap.size, 2, none⟩ x2).setCell ⟨w.heap.size, 3, none⟩ x3).setCell ⟨w.heap.size, 4, none⟩ x4).setCell ⟨w.heap.size, 5, none⟩ x5).setCell ⟨w.heap.size, 6, none⟩ x6).setCell ⟨w.heap.size, 7, none⟩ x7).setCell ⟨w.heap.size, 8, none⟩ x8).setCell ⟨w.heap.size, 9, none⟩ x9) 2) ∧ ((((((((((wx.setCell ⟨w.heap.size, 0, none⟩ x0).setCell ⟨w.heap.size, 1, none⟩ x1).setCell ⟨w.heap.size, 2, none⟩ x2).setCell ⟨w.heap.size, 3, none⟩ x3).setCell ⟨w.heap.size, 4, none⟩ x4).setCell ⟨w.heap.size, 5, none⟩ x5).setCell ⟨w.heap.size, 6, none⟩ x6).setCell ⟨w.heap.size, 7, none⟩ x7).setCell ⟨w.heap.size, 8, none⟩ x8).setCell ⟨w.heap.size, 9, none⟩ x9).frozen? ⟨w.heap.size, 2, none⟩ = false) ∧ (((((((((((wx.setCell ⟨w.heap.size, 0, none⟩ x0).setCell ⟨w.heap.size, 1, none⟩ x1).setCell ⟨w.heap.size, 2, none⟩ x2).setCell ⟨w.heap.size, 3, none⟩ x3).setCell ⟨w.heap.size, 4, none⟩ x4).setCell ⟨w.heap.size, 5, none⟩ x5).setCell ⟨w.heap.size, 6, none⟩ x6).setCell ⟨w.heap.size, 7, none⟩ x7).setCell ⟨w.heap.size, 8, none⟩ x8).setCell ⟨w.heap.size, 9, none⟩ x9).cell? ⟨w.heap.size, 3, none⟩ = some (g ((((((((((wx.setCell ⟨w.heap.size, 0, none⟩ x0).setCell ⟨w.heap.size, 1, none⟩ x1).setCell ⟨w.heap.size, 2, none⟩ x2).setCell ⟨w.heap.size, 3, none⟩ x3).setCell ⟨w.heap.size, 4, none⟩ x4).setCell ⟨w.heap.size, 5, none⟩ x5).setCell ⟨w.heap.size, 6, none⟩ x6).setCell ⟨w.heap.size, 7, none⟩ x7).setCell ⟨w.heap.size, 8, none⟩ x8).setCell ⟨w.heap.size, 9, none⟩ x9) 3) ∧ ((((((((((wx.setCell ⟨w.heap.size, 0, none⟩ x0).setCell ⟨w.heap.size, 1, none⟩ x1).setCell ⟨w.heap.size, 2, none⟩ x2).setCell ⟨w.heap.size, 3, none⟩ x3).setCell ⟨w.heap.size, 4, none⟩ x4).setCell ⟨w.heap.size, 5, none⟩ x5).setCell ⟨w.heap.size, 6, none⟩ x6).setCell ⟨w.heap.size, 7, none⟩ x7).setCell ⟨w.heap.size, 8, none⟩ x8).setCell ⟨w.heap.size, 9, none⟩ x9).frozen? ⟨w.heap.size, 3, none⟩ = false) ∧ (((((((((((wx.setCell ⟨w.heap.size, 0, none⟩ x0).setCell ⟨w.heap.size, 1, none⟩ x1).setCell ⟨w.heap.size, 2, none⟩ x2).setCell ⟨w.heap.size, 3, none⟩ x3).setCell ⟨w.heap.size, 4, none⟩ x4).setCell ⟨w.heap.size, 5, none⟩ x5).setCell ⟨w.heap.size, 6, none⟩ x6).setCell ⟨w.heap.size, 7, none⟩ x7).setCell ⟨w.heap.size, 8, none⟩ x8).setCell ⟨w.heap.size, 9, none⟩ x9).cell? ⟨w.heap.size, 4, none⟩ = some (g ((((((((((wx.setCell ⟨w.heap.size, 0, none⟩ x0).setCell ⟨w.heap.size, 1, none⟩ x1).setCell ⟨w.heap.size, 2, none⟩ x2).setCell ⟨w.heap.size, 3, none⟩ x3).setCell ⟨w.heap.size, 4, none⟩ x4).setCell ⟨w.heap.size, 5, none⟩ x5).setCell ⟨w.heap.size, 6, none⟩ x6).setCell ⟨w.heap.size, 7, none⟩ x7).setCell ⟨w.heap.size, 8, none⟩ x8).setCell ⟨w.heap.size, 9, none⟩ x9) 4) ∧ ((((((((((wx.setCell ⟨w.heap.size, 0, none⟩ x0).setCell ⟨w.heap.size, 1, none⟩ x1).setCell ⟨w.heap.size, 2, none⟩ x2).setCell ⟨w.heap.size, 3, none⟩ x3).setCell ⟨w.heap.size, 4, none⟩ x4).setCell ⟨w.heap.size, 5, none⟩ x5).setCell ⟨w.heap.size, 6, none⟩ x6).setCell ⟨w.heap.size, 7, none⟩ x7).setCell ⟨w.heap.size, 8, none⟩ x8).setCell ⟨w.heap.size, 9, none⟩ x9).frozen? ⟨w.heap.size, 4, none⟩ = false) ∧ (((((((((((wx.setCell ⟨w.heap.size, 0, none⟩ x0).setCell ⟨w.heap.size, 1, none⟩ x1).setCell ⟨w.heap.size, 2, none⟩ x2).setCell ⟨w.heap.size, 3, none⟩ x3).setCell ⟨w.heap.size, 4, none⟩ x4).setCell ⟨w.heap.size, 5, none⟩ x5).setCell ⟨w.heap.size, 6, none⟩ x6).setCell ⟨w.heap.size, 7, none⟩ x7).setCell ⟨w.heap.size, 8, none⟩ x8).setCell ⟨w.heap.size, 9, none⟩ x9).cell? ⟨w.heap.size, 5, none⟩ = some (g ((((((((((wx.setCell ⟨w.heap.size, 0, none⟩ x0).setCell ⟨w.heap.size, 1, none⟩ x1).setCell ⟨w.heap.size, 2, none⟩ x2).setCell ⟨w.heap.size, 3, none⟩ x3).setCell ⟨w.heap.size, 4, none⟩ x4).setCell ⟨w.heap.size, 5, none⟩ x5).setCell ⟨w.heap.size, 6, none⟩ x6).setCell ⟨w.heap.size, 7, none⟩ x7).setCell ⟨w.heap.size, 8, none⟩ x8).setCell ⟨w.heap.size, 9, none⟩ x9) 5) ∧ ((((((((((wx.setCell ⟨w.heap.size, 0, none⟩ x0).setCell ⟨w.heap.size, 1, none⟩ x1).setCell ⟨w.heap.size, 2, none⟩ x2).setCell ⟨w.heap.size, 3, none⟩ x3).setCell ⟨w.heap.size, 4, none⟩ x4).setCell ⟨w.heap.size, 5, none⟩ x5).setCell ⟨w.heap.size, 6, none⟩ x6).setCell ⟨w.heap.size, 7, none⟩ x7).setCell ⟨w.heap.size, 8, none⟩ x8).setCell ⟨w.heap.size, 9, none⟩ x9).frozen? ⟨w.heap.size, 5, none⟩ = false) ∧ (((((((((((wx.setCell ⟨w.heap.size, 0, none⟩ x0).setCell ⟨w.heap.size, 1, none⟩ x1).setCell ⟨w.heap.size, 2, none⟩ x2).setCell ⟨w.heap.size, 3, none⟩ x3).setCell ⟨w.heap.size, 4, none⟩ x4).setCell ⟨w.heap.size, 5, none⟩ x5).setCell ⟨w.heap.size, 6, none⟩ x6).setCell ⟨w.heap.size, 7, none⟩ x7).setCell ⟨w.heap.size, 8, none⟩ x8).setCell ⟨w.heap.size, 9, none⟩ x9).cell? ⟨w.heap.size, 6, none⟩ = some (g ((((((((((wx.setCell ⟨w.heap.size, 0, none⟩ x0).setCell ⟨w.heap.size, 1, none⟩ x1).setCell ⟨w.heap.size, 2, none⟩ x2).setCell ⟨w.heap.size, 3, none⟩ x3).setCell ⟨w.heap.size, 4, none⟩ x4).setCell ⟨w.heap.size, 5, none⟩ x5).setCell ⟨w.heap.size, 6, none⟩ x6).setCell ⟨w.heap.size, 7, none⟩ x7).setCell ⟨w.heap.size, 8, none⟩ x8).setCell ⟨w.heap.size, 9, none⟩ x9) 6) ∧ ((((((((((wx.setCell ⟨w.heap.size, 0, none⟩ x0).setCell ⟨w.heap.size, 1, none⟩ x1).setCell ⟨w.heap.size, 2, none⟩ x2).setCell ⟨w.heap.size, 3, none⟩ x3).setCell ⟨w.heap.size, 4, none⟩ x4).setCell ⟨w.heap.size, 5, none⟩ x5).setCell ⟨w.heap.size, 6, none⟩ x6).setCell ⟨w.heap.size, 7, none⟩ x7).setCell ⟨w.heap.size, 8, none⟩ x8).setCell ⟨w.heap.size, 9, none⟩ x9).frozen? ⟨w.heap.size, 6, none⟩ = false) ∧ (((((((((((wx.setCell ⟨w.heap.size, 0, none⟩ x0).setCell ⟨w.heap.size, 1, none⟩ x1).setCell ⟨w.heap.size, 2, none⟩ x2).setCell ⟨w.heap.size, 3, none⟩ x3).setCell ⟨w.heap.size, 4, none⟩ x4).setCell ⟨w.heap.size, 5, none⟩ x5).setCell ⟨w.heap.size, 6, none⟩ x6).setCell ⟨w.heap.size, 7, none⟩ x7).setCell ⟨w.heap.size, 8, none⟩ x8).setCell ⟨w.heap.size, 9, none⟩ x9).cell? ⟨w.heap.size, 7, none⟩ = some (g ((((((((((wx.setCell ⟨w.heap.size, 0, none⟩ x0).setCell ⟨w.heap.size, 1, none⟩ x1).setCell ⟨w.heap.size, 2, none⟩ x2).setCell ⟨w.heap.size, 3, none⟩ x3).setCell ⟨w.heap.size, 4, none⟩ x4).setCell ⟨w.heap.size, 5, none⟩ x5).setCell ⟨w.heap.size, 6, none⟩ x6).setCell ⟨w.heap.size, 7, none⟩ x7).setCell ⟨w.heap.size, 8, none⟩ x8).setCell ⟨w.heap.size, 9, none⟩ x9) 7) ∧ ((((((((((wx.setCell ⟨w.heap.size, 0, none⟩ x0).setCell ⟨w.heap.size, 1, none⟩ x1).setCell ⟨w.heap.size, 2, none⟩ x2).setCell ⟨w.heap.size, 3, none⟩ x3).setCell ⟨w.heap.size, 4, none⟩ x4).setCell ⟨w.heap.size, 5, none⟩ x5).setCell ⟨w.heap.size, 6, none⟩ x6).setCell ⟨w.heap.size, 7, none⟩ x7).setCell ⟨w.heap.size, 8, none⟩ x8).setCell ⟨w.heap.size, 9, none⟩ x9).frozen? ⟨w.heap.size, 7, none⟩ = false) ∧ (((((((((((wx.setCell ⟨w.heap.size, 0, none⟩ x0).setCell ⟨w.heap.size, 1, none⟩ x1).setCell ⟨w.heap.size, 2, none⟩ x2).setCell ⟨w.heap.size, 3, none⟩ x3).setCell ⟨w.heap.size, 4, none⟩ x4).setCell ⟨w.heap.size, 5, none⟩ x5).setCell ⟨w.heap.size, 6, none⟩ x6).setCell ⟨w.heap.size, 7, none⟩ x7).setCell ⟨w.heap.size, 8, none⟩ x8).setCell ⟨w.heap.size, 9, none⟩ x9).cell? ⟨w.heap.size, 8, none⟩ = some (g ((((((((((wx.setCell ⟨w.heap.size, 0, none⟩ x0).setCell ⟨w.heap.size, 1, none⟩ x1).setCell ⟨w.heap.size, 2, none⟩ x2).setCell ⟨w.heap.size, 3, none⟩ x3).setCell ⟨w.heap.size, 4, none⟩ x4).setCell ⟨w.heap.size, 5, none⟩ x5).setCell ⟨w.heap.size, 6, none⟩ x6).setCell ⟨w.heap.size, 7, none⟩ x7).setCell ⟨w.heap.size, 8, none⟩ x8).setCell ⟨w.heap.size, 9, none⟩ x9) 8) ∧ ((((((((((wx.setCell ⟨w.heap.size, 0, none⟩ x0).setCell ⟨w.heap.size, 1, none⟩ x1).setCell ⟨w.heap.size, 2, none⟩ x2).setCell ⟨w.heap.size, 3, none⟩ x3).setCell ⟨w.heap.size, 4, none⟩ x4).setCell ⟨w.heap.size, 5, none⟩ x5).setCell ⟨w.heap.size, 6, none⟩ x6).setCell ⟨w.heap.size, 7, none⟩ x7).setCell ⟨w.heap.size, 8, none⟩ x8).setCell ⟨w.heap.size, 9, none⟩ x9).frozen? ⟨w.heap.size, 8, none⟩ = false) ∧ (((((((((((wx.setCell ⟨w.heap.size, 0, none⟩ x0).setCell ⟨w.heap.size, 1, none⟩ x1).setCell ⟨w.heap.size, 2, none⟩ x2).setCell ⟨w.heap.size, 3, none⟩ x3).setCell ⟨w.heap.size, 4, none⟩ x4).setCell ⟨w.heap.size, 5, none⟩ x5).setCell ⟨w.heap.size, 6, none⟩ x6).setCell ⟨w.heap.size, 7, none⟩ x7).setCell ⟨w.heap.size, 8, none⟩ x8).setCell ⟨w.heap.size, 9, none⟩ x9).cell? ⟨w.heap.size, 9, none⟩ = some (g ((((((((((wx.setCell ⟨w.heap.size, 0, none⟩ x0).setCell ⟨w.heap.size, 1, none⟩ x1).setCell ⟨w.heap.size, 2, none⟩ x2).setCell ⟨w.heap.size, 3, none⟩ x3).setCell ⟨w.heap.size, 4, none⟩ x4).setCell ⟨w.heap.size, 5, none⟩ x5).setCell ⟨w.heap.size, 6, none⟩ x6).setCell ⟨w.heap.size, 7, none⟩ x7).setCell ⟨w.heap.size, 8, none⟩ x8).setCell ⟨w.heap.size, 9, none⟩ x9) 9) ∧ ((((((((((wx.setCell ⟨w.heap.size, 0, none⟩ x0).setCell ⟨w.heap.size, 1, none⟩ x1).setCell ⟨w.heap.size, 2, none⟩ x2).setCell ⟨w.heap.size, 3, none⟩ x3).setCell ⟨w.heap.size, 4, none⟩ x4).setCell ⟨w.heap.size, 5, none⟩ x5).setCell ⟨w.heap.size, 6, none⟩ x6).setCell ⟨w.heap.size, 7, none⟩ x7).setCell ⟨w.heap.size, 8, none⟩ x8).setCell ⟨w.heap.size, 9, none⟩ x9).frozen? ⟨w.heap.size, 9, none⟩ = false))) := fun wx x0 x1 x2 x3 x4 x5 x6 x7 x8 x9 h => by
      obtain ⟨⟨p2, p3⟩, q0, q1, q2⟩ := (CS.out wx h).2
      refine ⟨⟨⟨?_, ?_⟩, ?_, ?_, ?_⟩, TG.out _ _ _ _ _ _ _ _ _ _ _ (Ten.put (CS.out wx h).1 x0 x1 x2 x3 x4 x5 x6 x7 x8 x9)⟩
      · simp only [set_far lt1]; exact p2
      · simp only [set_far lt1]; exact p3
      · simp only [set_far lt2]; exact q0
      · simp only [set_far lt2]; exact q1
      · simp only [set_far lt2]; exact q2
    have TT : Hid (∀ wx : World, SS wx → Ten wx w.heap.size (.bool false) (.string ⟨#[]⟩) (.int .i64 0) (.bool false) (.string ⟨#[]⟩) (.int .i64 0) (.bool false) (.string ⟨#[]⟩) (.int .i64 0) (.bool false)) := fun wx h => (CS.out wx h).1
    clear hbL HB3 HBL ZB MS TZ TL PC CS lt1 lt2 lt3 TG hg R3
    go_upto_region 6 with fail
    generalize ((w3.setCell ⟨w2.heap.size, 0, none⟩ (.bool DA.neg)).setCell ⟨w2.heap.size, 1, none⟩ (.string t2)).setCell ⟨w2.heap.size, 2, none⟩ (.int .i64 DA.e) = wL at *
    clear lc0 lc1 lc2 lf0 lf1 lf2
    have T0 := hid (KS.out _ _ S0.out (drew_nil _))
    clear S0
    go_region_held3 (fun w' => ((w'.cell? ⟨w1.heap.size, 2, none⟩ = some (.int .u64 m) ∧ w'.cell? ⟨w1.heap.size, 3, none⟩ = some (.int .i64 x)) ∧ (w'.cell? ⟨w2.heap.size, 0, none⟩ = some (.bool DA.neg) ∧ w'.cell? ⟨w2.heap.size, 1, none⟩ = some (.string t2) ∧ w'.cell? ⟨w2.heap.size, 2, none⟩ = some (.int .i64 DA.e))) ∧ (w'.cell? ⟨w.heap.size, 0, none⟩ = some (g w' 0) ∧ w'.frozen? ⟨w.heap.size, 0, none⟩ = false) ∧ (w'.cell? ⟨w.heap.size, 1, none⟩ = some (g w' 1) ∧ w'.frozen? ⟨w.heap.size, 1, none⟩ = false) ∧ (w'.cell? ⟨w.heap.size, 2, none⟩ = some (g w' 2) ∧ w'.frozen? ⟨w.heap.size, 2, none⟩ = false) ∧ (w'.cell? ⟨w.heap.size, 3, none⟩ = some (g w' 3) ∧ w'.frozen? ⟨w.heap.size, 3, none⟩ = false) ∧ (w'.cell? ⟨w.heap.size, 4, none⟩ = some (g w' 4) ∧ w'.frozen? ⟨w.heap.size, 4, none⟩ = false) ∧ (w'.cell? ⟨w.heap.size, 5, none⟩ = some (g w' 5) ∧ w'.frozen? ⟨w.heap.size, 5, none⟩ = false) ∧ (w'.cell? ⟨w.heap.size, 6, none⟩ = some (g w' 6) ∧ w'.frozen? ⟨w.heap.size, 6, none⟩ = false) ∧ (w'.cell? ⟨w.heap.size, 7, none⟩ = some (g w' 7) ∧ w'.frozen? ⟨w.heap.size, 7, none⟩ = false) ∧ (w'.cell? ⟨w.heap.size, 8, none⟩ = some (g w' 8) ∧ w'.frozen? ⟨w.heap.size, 8, none⟩ = false) ∧ (w'.cell? ⟨w.heap.size, 9, none⟩ = some (g w' 9) ∧ w'.frozen? ⟨w.heap.size, 9, none⟩ = false)) (first | (with_reducible exact FS.out _ _ _ _ _ _ _ _ _ _ _ T2.out) | (with_reducible exact FT.out _ T2.out) | (with_reducible exact FT.out _ T1.out) | (with_reducible exact FT.out _ T0.out)) (first
      | (go_at_call 44; with_reducible refine (EV.out _).mono ?_; rintro e w5 ⟨t1, rfl, HT1, hB⟩; (first | (have T2 := hid (KS.out _ _ T1.out hB); clear hB) | (have T1 := hid (KS.out _ _ T0.out hB); clear hB)))
      | (go_at_call 45; with_reducible refine (HI.out _).mono ?_; rintro e w5 ⟨t3, rfl, HT3, hB⟩; (first | (have T2 := hid (KS.out _ _ T1.out hB); clear hB) | (have T1 := hid (KS.out _ _ T0.out hB); clear hB))))
    have KV := hid (G.out t1 t2 t3 HT1.out HT2.out HT3.out)
    have KB := hid (BS.out _ T2.out)
    have KT := hid (TT.out _ T2.out)
    clear HT1 HT2 HT3 FT FS TT T0 T1 T2 KS BS G HI EV
    go_wp2_with fail
    (try simp only [Exit.inBlock, Exit.then])
    refine bodyPost_ret (results_cell_row rfl _ _ w.heap.size 51 _ (0, 0) _ rfl (KT.out.put _ _ _ _ _ _ _ _ _ _) Tryz.underlying51 rfl (by kernel_rfl)) rfl ?_
    exact ⟨_, rfl, KV.out, set10_below KB.out (Nat.le_refl _)⟩
end Go.Proofs.YtjkefcikepnbpaaGreatDoor

namespace Go.Proofs.YtjkefcikepnbpaaGreatDoor
open Go Go.RowKit Go.Deep

namespace Sh
/-- A row that is being filled. -/
def fill (xs : List Int) (lead n i : Nat) : List Int := List.replicate lead 0 ++ (xs.take i).map (fun d => d - 48) ++ List.replicate (n - lead - i) 0
theorem fill_len {xs : List Int} {lead n i : Nat} (h : lead + i ≤ n) (hi : i ≤ xs.length) : (fill xs lead n i).length = n := by
  simp [fill]
  omega
theorem fill_set {xs : List Int} {lead n i : Nat} (h : lead + i < n) (hi : i < xs.length) : (fill xs lead n i).set (lead + i) (xs.getD i 0 - 48) = fill xs lead n (i + 1) := by
  unfold fill
  have e1 : (xs.take (i + 1)).map (fun d => d - 48) = (xs.take i).map (fun d => d - 48) ++ [xs.getD i 0 - 48] := by
    rw [List.take_add_one, List.map_append]
    simp [List.getElem?_eq_getElem hi]
  have e2 : List.replicate (n - lead - i) (0 : Int) = 0 :: List.replicate (n - lead - (i + 1)) 0 := by
    rw [show n - lead - i = (n - lead - (i + 1)) + 1 by omega, List.replicate_succ]
  have hl : (List.replicate lead (0 : Int) ++ (xs.take i).map (fun d => d - 48)).length = lead + i := by simp; omega
  rw [e1, e2, List.set_append_right _ _ (by omega), hl, Nat.sub_self]
  simp
theorem fill_dg {xs : List Int} {lead trail n : Nat} (hd : Digs xs) (h : lead + xs.length + trail = n) : fill xs lead n xs.length = Dn.dg 10 n (dv xs * 10 ^ trail) := by
  have hn := fill_len (xs := xs) (lead := lead) (n := n) (i := xs.length) (by omega) (Nat.le_refl _)
  have hm : ∀ d ∈ fill xs lead n xs.length, 0 ≤ d ∧ d < 10 := by
    intro d q
    unfold fill at q
    rw [List.mem_append, List.mem_append] at q
    rcases q with (q | q) | q
    · rw [(List.mem_replicate.1 q).2]; omega
    · obtain ⟨x, hx, rfl⟩ := List.mem_map.1 q
      have := hd x (List.mem_of_mem_take hx)
      omega
    · rw [(List.mem_replicate.1 q).2]; omega
  have hv : Dn.tv 10 0 (fill xs lead n xs.length) = dv xs * 10 ^ trail := by
    have z : ∀ (k : Nat) (a : Int), Dn.tv 10 a (List.replicate k 0) = a * 10 ^ k := by
      intro k a
      rw [Dn.tv_acc, List.length_replicate]
      have : Dn.tv 10 0 (List.replicate k 0) = 0 := by
        have h2 := Dn.tv_dg (B := 10) (by omega) k 0 (by omega) (Fx.p_pos k)
        rw [Dn.dg_zero (by omega)] at h2
        exact h2
      omega
    unfold fill
    rw [Dn.tv_append, Dn.tv_append, z lead 0, Int.zero_mul, List.take_length, z, show n - lead - xs.length = trail by omega]
    rfl
  rw [← hv]
  exact (Dn.dg_tv (by omega) n _ hn hm).symm
end Sh

/-- What placed tells. -/
def PlTold (n : Nat) (T : Int) (w : World) (r : Ending) (w' : World) : Prop := ∃ g, r = .returned (.slice (some ⟨g, 0, none⟩) n n) ∧ w.heap.size ≤ g ∧ OwnB w' g (Dn.dg 10 n T) ∧ Below w.heap.size w w'

set_option maxRecDepth 100000 in
set_option maxHeartbeats 4000000 in
theorem placed_any (neg : Bool) (s : ByteArray) (xs : List Int) (e lo hi : Int) (lead trail n : Nat) (w : World) (hs : Str s xs) (hd : Digs xs) (h : lead + xs.length + trail = n) (hn : hi - lo = (n : Int)) (ht : e - lo = (trail : Int)) (nb : n ≤ 5000) (l0 : -5000 ≤ lo) (l1 : lo ≤ 5000) :
    Calls Tryz.prog 38 #[.agg #[.bool neg, .string s, .int .i64 e], .int .i64 lo, .int .i64 hi] w fun r w' => PlTold n (dv xs * 10 ^ trail) w r w' := by
  have HS := hid hs
  have hsz := hs.size
  have FD := hid (Sh.fill_dg hd h)
  have HD := hid hd
  have hlead : hi - e - (xs.length : Int) = (lead : Int) := by omega
  have nbi : (n : Int) ≤ 5000 := by omega
  have MK := make8 n (by omega)
  rw [made_zero8] at MK
  have Z0 : List.replicate n (0 : Int) = Sh.fill xs lead n 0 := by
    unfold Sh.fill
    rw [List.take_zero, List.map_nil, List.append_nil, Nat.sub_zero, List.replicate_append_replicate]
    congr 1
    omega
  rw [Z0] at MK
  have r0 := FR3.new w (.bool neg) (.string s) (.int .i64 e)
  have b0 := alloc_b w (.cells #[.bool neg, .string s, .int .i64 e] 25)
  have sz1 : (w.alloc (.cells #[.bool neg, .string s, .int .i64 e] 25)).heap.size = w.heap.size + 1 := Array.size_push ..
  clear hs
  go_enter Tryz.func38, Tryz.ntmps38
  go_wp2_with fail
  have hiB : -10000 ≤ hi ∧ hi ≤ 10000 := by omega
  have eB : -10000 ≤ e ∧ e ≤ 10000 := by omega
  obtain ⟨hi0, hi1⟩ := hiB
  obtain ⟨eB0, eB1⟩ := eB
  have hlb : (xs.length : Int) ≤ 5000 := by omega
  have HL := hid h
  go_loopg [8] xs.length (fun k i wr => ∃ j : Nat, j + k = xs.length ∧ i = .int .i64 j ∧ Hid (OwnB wr (w.heap.size + 1) (Sh.fill xs lead n j) ∧ FR3 wr w.heap.size (.bool neg) (.string s) (.int .i64 e) ∧ Below w.heap.size w wr))
  case atStart =>
    refine ⟨0, by omega, rfl, ?_, ?_, ?_⟩
    · have := OwnB.alloc (w.alloc (.cells #[.bool neg, .string s, .int .i64 e] 25)) (Sh.fill xs lead n 0)
      rw [sz1] at this
      exact this
    · exact r0.below (alloc_b _ _) r0.lt
    · exact b0.trans ((alloc_b _ _).mono b0.size)
  case round =>
    obtain ⟨j, hj, rfl, I⟩ := hrel
    obtain ⟨⟨c0, c1, c2⟩, -⟩ := I.out.2.1.cells
    have hx := HS.out.pk j
    by_cases hjl : j < xs.length
    · have hji : (j : Int) < (xs.length : Int) := by omega
      have dj := digs_at HD.out j hjl
      have ej : Sc.pk xs j = xs.getD j 0 := rfl
      have o := I.out.1
      have cl := o.cell (lead + j) (by rw [Sh.fill_len (by have := HL.out; omega) (by omega)]; have := HL.out; omega)
      have fl := o.free (lead + j)
      have NX : Hid (OwnB (wr.drew.setCell ⟨w.heap.size + 1, lead + j, none⟩ (.int .u8 (xs.getD j 0 - 48))) (w.heap.size + 1) (Sh.fill xs lead n (j + 1)) ∧ FR3 (wr.drew.setCell ⟨w.heap.size + 1, lead + j, none⟩ (.int .u8 (xs.getD j 0 - 48))) w.heap.size (.bool neg) (.string s) (.int .i64 e) ∧ Below w.heap.size w (wr.drew.setCell ⟨w.heap.size + 1, lead + j, none⟩ (.int .u8 (xs.getD j 0 - 48)))) := by
        refine ⟨?_, FR3.far (w := wr.drew) I.out.2.1 (by omega), (below_drewN I.out.2.2 1).setCell (p := ⟨w.heap.size + 1, lead + j, none⟩) (by show w.heap.size ≤ w.heap.size + 1; omega) _⟩
        have q := OwnB.set (w := wr.drew) (g := w.heap.size + 1) o (lead + j) (xs.getD j 0 - 48)
        rw [Sh.fill_set (by have := HL.out; omega) hjl] at q
        exact q
      rw [ej] at hx
      generalize xs.getD j 0 = xj at *
      have W8 : IntKind.u8.wrap (xj - 48) = xj - 48 := by rw [IntKind.wrap_u8]; omega
      have lj : (lead : Int) + (j : Int) < (n : Int) := by have := HL.out; omega
      have d1 : wr.drew.cell? ⟨w.heap.size, 1, none⟩ = some (.string s) := c1
      have d2 : wr.drew.cell? ⟨w.heap.size, 2, none⟩ = some (.int .i64 e) := c2
      have dl : wr.drew.cell? ⟨w.heap.size + 1, lead + j, none⟩ = some (.int .u8 ((Sh.fill xs lead n j).getD (lead + j) 0)) := cl
      have df : wr.drew.frozen? ⟨w.heap.size + 1, lead + j, none⟩ = false := fl
      clear I o ej
      go_upto_region 5 with fail
      go_region
      go_wp2_with fail
      go_roundg (xs.length - (j + 1))
      case measure => omega
      case rel => exact ⟨j + 1, by omega, by go_num, NX.out⟩
    · have hje : j = xs.length := by omega
      have K : Hid (PlTold n (dv xs * 10 ^ trail) w (.returned (.slice (some ⟨w.heap.size + 1, 0, none⟩) n n)) wr) := ⟨_, rfl, by omega, by rw [← FD.out, ← hje]; exact I.out.1, I.out.2.2⟩
      have hji : ¬ (j : Int) < (xs.length : Int) := by omega
      clear I hx hj hje
      go_wp2_with fail
      go_ret
      exact K.out
end Go.Proofs.YtjkefcikepnbpaaGreatDoor

namespace Go.Proofs.YtjkefcikepnbpaaGreatDoor
open Go Go.RowKit Go.Deep

theorem row_str {W : World} {g n : Nat} {T : Int} (o : OwnB W g (Dn.dg 10 n T)) :
    (convert 38 9 (.slice (some ⟨g, 0, none⟩) n n)).run Tryz.prog W = .ok (.string ⟨(Sh.rb n T).toArray⟩) W := by
  have h := run_convert_bytes_back (P := Tryz.prog) W 38 9 5 ⟨g, 0, none⟩ n (Sh.rb n T) Tryz.underlying38 Tryz.underlying5 Tryz.underlying9 (fun j hj => by
    rw [Lib.add_plain, Nat.zero_add]
    have hj2 : j < n := by rw [Sh.rb_len] at hj; exact hj
    rw [o.cell j (by rw [Sh.dg_len]; exact hj2)]
    have b := Sh.dg_bd n T j hj2
    have e : (Sh.rb n T)[j] = UInt8.ofNat ((Dn.dg 10 n T).getD j 0).toNat := by
      simp [Sh.rb, List.getD, Sh.dg_len, hj2]
    rw [e, UInt8.toNat_ofNat_of_lt' (by show _ < 256; omega)]
    congr 2
    omega)
  rw [Sh.rb_len] at h
  exact h

/-- The borrow behind q places. -/
def Sh.bw (X Y : Int) (q : Nat) : Int := if X % 10 ^ q < Y % 10 ^ q then 1 else 0

def GapTold (n : Nat) (D lo : Int) (w : World) (r : Ending) (w' : World) : Prop := ∃ g, r = .returned (.tuple #[.slice (some ⟨g, 0, none⟩) n n, .int .i64 lo]) ∧ w.heap.size ≤ g ∧ OwnB w' g (Dn.dg 10 n D) ∧ Below w.heap.size w w'

set_option maxRecDepth 100000 in
set_option maxHeartbeats 4000000 in
theorem gap_any (p1 p2 : Bool) (s1 s2 : ByteArray) (xs ys : List Int) (e1 e2 lo hi : Int) (n t1 t2 : Nat) (w : World) (hs1 : Str s1 xs) (hs2 : Str s2 ys) (hd1 : Digs xs) (hd2 : Digs ys)
    (hlo : min e1 e2 = lo) (hhi : max (e1 + (xs.length : Int)) (e2 + (ys.length : Int)) = hi) (hn : hi - lo = (n : Int)) (ht1 : e1 - lo = (t1 : Int)) (ht2 : e2 - lo = (t2 : Int)) (nb : n ≤ 5000) (b0 : -5000 ≤ e1) (b1 : e1 ≤ 3000) (b2 : -5000 ≤ e2) (b3 : e2 ≤ 3000) :
    Calls Tryz.prog 16 #[.agg #[.bool p1, .string s1, .int .i64 e1], .agg #[.bool p2, .string s2, .int .i64 e2]] w fun r w' => GapTold n ((dv xs * 10 ^ t1 - dv ys * 10 ^ t2).natAbs : Int) lo w r w' := by
  obtain ⟨l1, hl1⟩ : ∃ l1 : Nat, l1 + xs.length + t1 = n := ⟨n - xs.length - t1, by omega⟩
  obtain ⟨l2, hl2⟩ : ∃ l2 : Nat, l2 + ys.length + t2 = n := ⟨n - ys.length - t2, by omega⟩
  have P1 := hid (fun wx : World => placed_any p1 s1 xs e1 lo hi l1 t1 n wx hs1 hd1 hl1 hn ht1 nb (by omega) (by omega))
  have P2 := hid (fun wx : World => placed_any p2 s2 ys e2 lo hi l2 t2 n wx hs2 hd2 hl2 hn ht2 nb (by omega) (by omega))
  have z1 := hs1.size
  have z2 := hs2.size
  have bound : ∀ (zs : List Int) (t l : Nat), Digs zs → l + zs.length + t = n → 0 ≤ dv zs * 10 ^ t ∧ dv zs * 10 ^ t < 10 ^ n := by
    intro zs t l hd h
    have b := dv_bd hd
    refine ⟨Int.mul_nonneg b.1 (Int.le_of_lt (Fx.p_pos t)), ?_⟩
    refine Int.lt_of_lt_of_le (Int.mul_lt_mul_of_pos_right b.2 (Fx.p_pos t)) ?_
    rw [← Int.pow_add]
    exact Fx.p_le (by omega)
  have q1 := bound xs t1 l1 hd1 hl1
  have q2 := bound ys t2 l2 hd2 hl2
  have lb1 : (xs.length : Int) ≤ 5000 := by omega
  have lb2 : (ys.length : Int) ≤ 5000 := by omega
  have nbi : (n : Int) ≤ 5000 := by omega
  generalize dv xs * 10 ^ t1 = X at *
  generalize dv ys * 10 ^ t2 = Y at *
  have a1 := alloc_b w (.cells #[.bool p1, .string s1, .int .i64 e1] 25)
  have a2 := alloc_b (w.alloc (.cells #[.bool p1, .string s1, .int .i64 e1] 25)) (.cells #[.bool p2, .string s2, .int .i64 e2] 25)
  have r1 := (FR3.new w (.bool p1) (.string s1) (.int .i64 e1)).below a2 (FR3.new w _ _ _).lt
  have r2 : FR3 ((w.alloc (.cells #[.bool p1, .string s1, .int .i64 e1] 25)).alloc (.cells #[.bool p2, .string s2, .int .i64 e2] 25)) (w.heap.size + 1) (.bool p2) (.string s2) (.int .i64 e2) := by
    have := FR3.new (w.alloc (.cells #[.bool p1, .string s1, .int .i64 e1] 25)) (.bool p2) (.string s2) (.int .i64 e2)
    rwa [show (w.alloc (.cells #[.bool p1, .string s1, .int .i64 e1] 25)).heap.size = w.heap.size + 1 from Array.size_push ..] at this
  have HZ := hid (And.intro r2 (a1.trans (a2.mono a1.size)))
  clear hs1 hs2 hd1 hd2 bound a1 a2 r1 r2 hl1 hl2 ht1 ht2
  go_enter Tryz.func16, Tryz.ntmps16
  go_wp2_with fail
  refine (P1.out _).mono ?_
  rintro e w1 ⟨g1, rfl, hg1, o1, B1⟩
  obtain ⟨⟨c0, c1, c2⟩, -⟩ := (HZ.out.1.below B1 HZ.out.1.lt).cells
  have BW1 := hid (HZ.out.2.trans (B1.mono HZ.out.2.size))
  have O1 := hid o1
  have G1 : Hid (w.heap.size ≤ g1) := Nat.le_trans HZ.out.2.size hg1
  clear B1 o1 hg1 P1 HZ
  go_wp2_with fail
  refine (P2.out _).mono ?_
  rintro e w2 ⟨g2, rfl, hg2, o2, B2⟩
  have o1 := O1.out.below B2 O1.out.lt
  have ne : g1 ≠ g2 := by have := O1.out.lt; omega
  have S1 := row_str o1
  have S2 := row_str o2
  have LT := Sh.rb_less n X Y q1.1 q1.2 q2.1 q2.2
  have T1 : (⟨(Sh.rb n X).toArray⟩ : ByteArray).toList = Sh.rb n X := by rw [ByteArray.toList_eq]
  have T2 : (⟨(Sh.rb n Y).toArray⟩ : ByteArray).toList = Sh.rb n Y := by rw [ByteArray.toList_eq]
  rw [← T1, ← T2] at LT
  have BW2 := hid (BW1.out.trans (B2.mono BW1.out.size))
  have OO := hid (And.intro o1 (And.intro o2 (And.intro ne (And.intro G1.out (Nat.le_trans BW1.out.size hg2)))))
  generalize (⟨(Sh.rb n X).toArray⟩ : ByteArray) = sx at *
  generalize (⟨(Sh.rb n Y).toArray⟩ : ByteArray) = sy at *
  obtain ⟨lt, hlt⟩ : ∃ lt, decide (X < Y) = lt := ⟨_, rfl⟩
  rw [hlt] at LT
  clear T1 T2 c0 c1 c2 P2 B2 o1 o2 ne O1 G1 hg2 BW1
  go_upto_if 43 with fail
  go_cut [8, 9] from 44 to 45 (fun a b wx => ∃ ga gb U V, a = .slice (some ⟨ga, 0, none⟩) n n ∧ b = .slice (some ⟨gb, 0, none⟩) n n ∧ wx = w2 ∧ Hid (OwnB w2 ga (Dn.dg 10 n U) ∧ OwnB w2 gb (Dn.dg 10 n V) ∧ ga ≠ gb ∧ w.heap.size ≤ ga ∧ 0 ≤ V ∧ V ≤ U ∧ U < 10 ^ n ∧ ((X - Y).natAbs : Int) = U - V))
  case first =>
    cases lt
    · have hle := of_decide_eq_false hlt
      go_wp2_with fail
      go_meet
      exact ⟨g1, g2, X, Y, rfl, rfl, rfl, OO.out.1, OO.out.2.1, OO.out.2.2.1, OO.out.2.2.2.1, q2.1, by omega, q1.2, by omega⟩
    · have hle := of_decide_eq_true hlt
      go_wp2_with fail
      go_meet
      exact ⟨g2, g1, Y, X, rfl, rfl, rfl, OO.out.2.1, OO.out.1, fun c => OO.out.2.2.1 c.symm, OO.out.2.2.2.2, q1.1, by omega, q2.2, by omega⟩
  obtain ⟨ga, gb, U, V, h8, h9, hwc, C⟩ := hcut
  subst h8
  subst h9
  subst hwc
  have GG : Hid (∀ w', OwnB w' ga (Dn.dg 10 n (U - V)) → Below w.heap.size w w' → GapTold n ((X - Y).natAbs : Int) lo w (.returned (.tuple #[.slice (some ⟨ga, 0, none⟩) n n, .int .i64 lo])) w') := fun w' o b => ⟨ga, rfl, C.out.2.2.2.1, by rw [C.out.2.2.2.2.2.2.2]; exact o, b⟩
  clear S1 S2 LT OO hlt
  go_wp2_with fail
  go_loopg [10, 11] n (fun k bo i wr => ∃ q : Nat, q + k = n ∧ bo = .int .u8 (Sh.bw U V q) ∧ i = .int .i64 ((k : Int) - 1) ∧ Hid (OwnB wr ga (Dn.dg 10 k (U / 10 ^ q) ++ Dn.dg 10 q (U - V)) ∧ OwnB wr gb (Dn.dg 10 n V) ∧ Below w.heap.size w wr))
  case atStart =>
    refine ⟨0, by omega, ?_, rfl, ?_⟩
    · have : Sh.bw U V 0 = 0 := by
        unfold Sh.bw
        rw [Int.pow_zero, Int.emod_one, Int.emod_one, if_neg (by omega)]
      rw [this]
    · refine ⟨?_, C.out.2.1, BW2.out⟩
      rw [Int.pow_zero, Int.ediv_one, show Dn.dg 10 0 (U - V) = [] from rfl, List.append_nil]
      exact C.out.1
  case round =>
    obtain ⟨q, hq, rfl, rfl, I⟩ := hrel
    cases gk with
    | zero =>
      have hqn : q = n := by omega
      subst hqn
      have K := hid (GG.out wr (by have := I.out.1; rw [show Dn.dg 10 0 (U / 10 ^ q) = [] from rfl, List.nil_append] at this; exact this) I.out.2.2)
      clear I GG
      generalize Sh.bw U V q = bo at *
      go_wp2_with fail
      go_ret2
      exact K.out
    | succ j =>
      rw [show ((j + 1 : Nat) : Int) - 1 = (j : Int) by omega]
      have jn : (j : Int) < (n : Int) := by omega
      obtain ⟨x, hx⟩ : ∃ x, U / 10 ^ q % 10 = x := ⟨_, rfl⟩
      obtain ⟨y, hy⟩ : ∃ y, V / 10 ^ q % 10 = y := ⟨_, rfl⟩
      obtain ⟨b, hb⟩ : ∃ b, Sh.bw U V q = b := ⟨_, rfl⟩
      have bb : b = 0 ∨ b = 1 := by rw [← hb]; unfold Sh.bw; split <;> simp
      obtain ⟨st1, st2⟩ := Sh.sub_step (X := U) (Y := V) (P := 10 ^ q) (Fx.p_pos q) (b := b) (x := x) (y := y) (by rw [← hb]; rfl) hx.symm hy.symm
      have oa := I.out.1
      have ob := I.out.2.1
      have lenA : (Dn.dg 10 (j + 1) (U / 10 ^ q) ++ Dn.dg 10 q (U - V)).length = n := by rw [List.length_append, Sh.dg_len, Sh.dg_len]; omega
      have ca := oa.cell j (by omega)
      have fa := oa.free j
      have ea : (Dn.dg 10 (j + 1) (U / 10 ^ q) ++ Dn.dg 10 q (U - V)).getD j 0 = x := by
        have h1 := Sh.dg_at (j + 1) (U / 10 ^ q) j (by omega)
        rw [show j + 1 - 1 - j = 0 by omega, Int.pow_zero, Int.ediv_one, hx] at h1
        rw [← h1]
        simp [List.getD, List.getElem?_append_left (show j < (Dn.dg 10 (j + 1) (U / 10 ^ q)).length by rw [Sh.dg_len]; omega)]
      rw [ea] at ca
      have cb := ob.cell j (by rw [Sh.dg_len]; omega)
      have eb : (Dn.dg 10 n V).getD j 0 = y := by
        rw [Sh.dg_at n V j (by omega), show n - 1 - j = q by omega, hy]
      rw [eb] at cb
      have xb : 0 ≤ x ∧ x < 10 := by omega
      have yb : 0 ≤ y ∧ y < 10 := by omega
      obtain ⟨xb0, xb1⟩ := xb
      obtain ⟨yb0, yb1⟩ := yb
      have NX : Hid (∀ (z : Int) (w' : World), z = (U - V) / 10 ^ q % 10 → OwnB w' ga ((Dn.dg 10 (j + 1) (U / 10 ^ q) ++ Dn.dg 10 q (U - V)).set j z) → OwnB w' gb (Dn.dg 10 n V) → Below w.heap.size w w' → (OwnB w' ga (Dn.dg 10 j (U / 10 ^ (q + 1)) ++ Dn.dg 10 (q + 1) (U - V)) ∧ OwnB w' gb (Dn.dg 10 n V) ∧ Below w.heap.size w w')) := by
        intro z w' hz o1 o2 o3
        rw [Sh.dg_set q j U (U - V) z hz] at o1
        exact ⟨o1, o2, o3⟩
      have far : ∀ (w' : World) (v : Value), OwnB w' gb (Dn.dg 10 n V) → OwnB (w'.setCell ⟨ga, j, none⟩ v) gb (Dn.dg 10 n V) := by
        intro w' v o
        simp only [OwnB] at *
        simp only [World.setCell, Array.getElem?_modify]
        rw [if_neg C.out.2.2.1]
        exact o
      have gw := C.out.2.2.2.1
      rw [hb]
      by_cases hc : x < y + b
      · obtain ⟨v1, v2⟩ := st1 hc
        have nbw : Hid (Sh.bw U V (q + 1) = 1) := by unfold Sh.bw; rw [Hid, Int.pow_succ, if_pos v2]
        have o1 := oa.set j (x + 10)
        have K := hid (NX.out (x + 10 - (y + b)) _ v1 (by have := o1.set j (x + 10 - (y + b)); rw [List.set_set] at this; exact this) (far _ _ (far _ (.int .u8 (x + 10)) ob)) ((I.out.2.2.setCell (p := ⟨ga, j, none⟩) gw (.int .u8 (x + 10))).setCell (p := ⟨ga, j, none⟩) gw (.int .u8 (x + 10 - (y + b)))))
        clear I oa ob o1 st1 st2 NX far v1 v2 ea eb lenA GG
        go_wp2_with fail
        go_roundg j
        case measure => omega
        case rel => exact ⟨q + 1, by omega, by rw [nbw.out], by go_num, K.out⟩
      · obtain ⟨v1, v2⟩ := st2 (by omega)
        have nbw : Hid (Sh.bw U V (q + 1) = 0) := by unfold Sh.bw; rw [Hid, Int.pow_succ, if_neg v2]
        have K := hid (NX.out (x - (y + b)) _ v1 (oa.set j (x - (y + b))) (far _ _ ob) (I.out.2.2.setCell (p := ⟨ga, j, none⟩) gw (.int .u8 (x - (y + b)))))
        clear I oa ob st1 st2 NX far v1 v2 ea eb lenA GG
        go_wp2_with fail
        go_roundg j
        case measure => omega
        case rel => exact ⟨q + 1, by omega, by rw [nbw.out], by go_num, K.out⟩
end Go.Proofs.YtjkefcikepnbpaaGreatDoor

namespace Go.Proofs.YtjkefcikepnbpaaGreatDoor
open Go Go.RowKit Go.Deep

set_option maxRecDepth 100000 in
theorem modest_any (neg : Bool) (s : ByteArray) (xs : List Int) (e : Int) (w : World) (hs : Str s xs) (hl : xs.length ≤ 800) (e0 : -1100 ≤ e) (e1 : e ≤ 400) :
    Calls Tryz.prog 15 #[.agg #[.bool neg, .string s, .int .i64 e]] w fun r w' => r = .returned (.bool true) ∧ Below w.heap.size w w' := by
  have hsz := hs.size
  have hl2 : (xs.length : Int) ≤ 800 := by omega
  have K := hid (alloc_b w (.cells #[.bool neg, .string s, .int .i64 e] 25))
  clear hs
  go_enter Tryz.func15, Tryz.ntmps15
  go_wp2_with fail
  go_ret
  exact ⟨rfl, K.out⟩
end Go.Proofs.YtjkefcikepnbpaaGreatDoor

namespace Go.Proofs.YtjkefcikepnbpaaGreatDoor
open Go Go.RowKit Go.Deep

theorem fprod_room {q : Int} {n : Nat} (q1 : q < 18446744073709551616) : q * 5 ^ n < 10 ^ (20 + n) := by
  have h1 := f5_10 n
  have h0 : (0 : Int) < 5 ^ n := Int.pow_pos (by omega)
  have h2 : q * 5 ^ n < 18446744073709551616 * 5 ^ n := Int.mul_lt_mul_of_pos_right q1 h0
  rw [Int.pow_add]
  have e : (10 : Int) ^ 20 = 100000000000000000000 := by decide
  rw [e]
  omega

set_option maxRecDepth 100000 in
theorem behind_any (p : Option Addr) (os : List Int) (B : Nat) (q k : Int) (n : Nat) (w : World) (A : Ans B w p os q) (q0 : 0 < q) (q1 : q < 18446744073709551616) (hk : k = (n : Int)) (hn : n ≤ 1074) :
    Calls Tryz.prog 57 #[.slice p (List.length os) (List.length os), .int .i64 k] w fun e w' => ∃ s xs, e = .returned (.string s) ∧ DigT (q * 5 ^ n) s xs ∧ Below w.heap.size w w' := by
  have F := hid (fpow5_ok k n w hk (by omega))
  have MU : Hid (∀ (w1 : World) (r : Option Addr) (zs : List Int), Below w.heap.size w w1 → Ans w.heap.size w1 r zs (5 ^ n) → Calls Tryz.prog 65 #[.slice p (List.length os) (List.length os), .slice r (List.length zs) (List.length zs)] w1 fun e w' => ∃ r os, e = .returned (.tuple #[.slice r (List.length os) (List.length os), .int .i64 0]) ∧ Ans w1.heap.size w' r os (q * 5 ^ n) ∧ Below w1.heap.size w1 w') := by
    intro w1 r zs hB A1
    have A0 := A.below hB (Nat.le_refl _)
    have r0 : q < Nm.pw 4096 := Int.lt_trans (show q < 10 ^ 20 by rw [show (10 : Int) ^ 20 = 100000000000000000000 by decide]; omega) (fp10_pw (by omega))
    have r1 : (5 : Int) ^ n < Nm.pw 4096 := Int.lt_of_le_of_lt (f5_10 n) (fp10_pw (by omega))
    have m := mul_ok p r _ _ _ _ os zs w1 (A0.argT r0) (A1.argT r1) (A0.tsT r0) (A1.tsT r1) (by rw [A0.2.2.2.1, A1.2.2.2.1]; exact Int.lt_trans (fprod_room q1) (fp10_pw (by omega)))
    rw [A0.2.2.2.1, A1.2.2.2.1] at m
    exact m
  have DG : Hid (∀ (w1 : World) (r : Option Addr) (zs : List Int) (B : Nat), Ans B w1 r zs (q * 5 ^ n) → Calls Tryz.prog 59 #[.slice r (List.length zs) (List.length zs)] w1 fun e w' => ∃ s xs, e = .returned (.tuple #[.string s, .int .i64 0]) ∧ DigT (q * 5 ^ n) s xs ∧ Below w1.heap.size w1 w') :=
    fun w1 r zs B A1 => fdigits_any r zs B _ w1 (20 + n) A1 (Int.mul_pos q0 (Int.pow_pos (by omega))) (by omega) (fprod_room q1)
  clear A q0 q1 hk hn
  generalize q * 5 ^ n = T at *
  generalize (5 : Int) ^ n = G at *
  go_enter Tryz.func57, Tryz.ntmps57
  go_wp2_with fail
  refine F.out.mono ?_
  rintro e w1 ⟨r, zs, rfl, A1, B1⟩
  have M1 := hid (MU.out w1 r zs B1 A1)
  have HB := hid B1
  clear A1 B1 MU F
  go_wp2_with fail
  refine M1.out.mono ?_
  rintro e w2 ⟨r2, z2, rfl, A2, B2⟩
  have D2 := hid (DG.out w2 r2 z2 _ A2)
  have HB2 := hid (HB.out.trans (B2.mono HB.out.size))
  clear A2 B2 M1 DG HB
  go_wp2_with fail
  refine D2.out.mono ?_
  rintro e w3 ⟨s, xs, rfl, D3, B3⟩
  have K := hid (And.intro D3 (HB2.out.trans (B3.mono HB2.out.size)))
  clear D3 B3 D2 HB2
  go_wp2_with fail
  go_ret
  exact ⟨s, xs, rfl, K.out.1, K.out.2⟩

/-- The digits of an odd number times a power of five: no zero is at their end. -/
theorem ex_odd {m e q : Int} {t n : Nat} {xs : List Int} {s : ByteArray} (hm : m = 2 ^ t * q) (q0 : 0 < q) (hq : q % 2 = 1) (he : -1074 ≤ e) (hn : (n : Int) = -(e + t)) (D : DigT (q * 5 ^ n) s xs) : Fx.Ex m e xs (e + t) := by
  have hm0 : 0 < m := by rw [hm]; exact Int.mul_pos (Int.pow_pos (by omega)) q0
  obtain ⟨L, hL⟩ : ∃ L, xs.length = L + 1 := ⟨xs.length - 1, by have := List.length_pos_iff.2 D.ne; omega⟩
  have odd : dv xs % 2 = 1 := by
    rw [D.val]
    have : ∀ k : Nat, (5 : Int) ^ k % 2 = 1 := by
      intro k
      induction k with
      | zero => rfl
      | succ k ih => rw [Int.pow_succ]; omega
    rw [Int.mul_emod, hq, this n]
    rfl
  refine ⟨by omega, fun c => by omega, fun _ => ⟨D.digs, D.ne, D.head, ?_⟩, fun _ => ?_⟩
  · have := Fx.dv_mod D.digs hL
    rw [hL, Nat.add_sub_cancel]
    omega
  · rw [D.val]
    obtain ⟨a, ha⟩ : ∃ a : Nat, (e + (t : Int) + 1074).toNat = a := ⟨_, rfl⟩
    obtain ⟨b, hb⟩ : ∃ b : Nat, (e + 1074).toNat = b := ⟨_, rfl⟩
    have e1 : a = t + b := by omega
    have e2 : 1074 = n + a := by omega
    rw [ha, hb, hm, Fx.F5, e2, Int.pow_add, e1, show (10 : Int) = 2 * 5 from rfl, Int.mul_pow, Int.pow_add 2]
    generalize (5 : Int) ^ n = x1
    generalize (5 : Int) ^ (t + b) = x2
    generalize (2 : Int) ^ t = x3
    generalize (2 : Int) ^ b = x4
    ac_rfl

/-- The digits of a whole number, without the zeros at their end. -/
theorem ex_whole {m e q : Int} {t n k : Nat} {xs : List Int} {s : ByteArray} (hm : m = 2 ^ t * q) (q0 : 0 < q) (he : -1074 ≤ e) (hn : (n : Int) = e + t) (D : DigT (q * 2 ^ n) s xs) (hk : k ≤ xs.length) (h0 : ∀ i, k ≤ i → i < xs.length → xs.getD i 0 = 48) (hl : 0 < k → xs.getD (k - 1) 0 ≠ 48) : Fx.Ex m e (xs.take k) (xs.length - k) := by
  have hm0 : 0 < m := by rw [hm]; exact Int.mul_pos (Int.pow_pos (by omega)) q0
  have := (Fx.ex_of (m := m) (e := e) (F := 0) hm0 D.digs D.head hk h0 hl (by omega) (by
    rw [D.val]
    obtain ⟨b, hb⟩ : ∃ b : Nat, (e + 1074).toNat = b := ⟨_, rfl⟩
    have e1 : n + 1074 = t + b := by omega
    have e2 : (2 : Int) ^ n * 2 ^ 1074 = 2 ^ t * 2 ^ b := by rw [← Int.pow_add, ← Int.pow_add, e1]
    rw [hb, hm, Fx.F5, show ((0 : Int) + 1074).toNat = 1074 from rfl]
    generalize 1074 = z at *
    rw [show (10 : Int) = 2 * 5 from rfl, Int.mul_pow]
    generalize (5 : Int) ^ z = x1
    generalize (2 : Int) ^ z = x2 at *
    rw [show q * 2 ^ n * (x2 * x1) = q * (2 ^ n * x2) * x1 by ac_rfl, e2]
    ac_rfl)).1
  rw [Int.zero_add] at this
  exact this
end Go.Proofs.YtjkefcikepnbpaaGreatDoor

namespace Go.Proofs.YtjkefcikepnbpaaGreatDoor
open Go Go.RowKit Go.Deep

/-- What exact tells. -/
def ExTold (d : Int) (w : World) (e : Ending) (w' : World) : Prop :=
  ∃ s, e = .returned (.tuple #[.string s, .int .i64 (Fx.ed (Ie.dm d) (Ie.de d))]) ∧ Str s (Fx.xd (Ie.dm d) (Ie.de d)) ∧ Below w.heap.size w w'

theorem ExTold.of {d : Int} {w w' : World} {s : ByteArray} {xs : List Int} {E : Int} (hm : 0 ≤ Ie.dm d) (h : Fx.Ex (Ie.dm d) (Ie.de d) xs E) (hs : Str s xs) (hB : Below w.heap.size w w') : ExTold d w (.returned (.tuple #[.string s, .int .i64 E])) w' := by
  obtain ⟨e1, e2⟩ := h.is hm
  exact ⟨s, by rw [e2], by rw [← e1]; exact hs, hB⟩

set_option maxRecDepth 100000 in
set_option maxHeartbeats 4000000 in
theorem exact_any (d : Int) (w : World) (hT : Tab w) (h0 : 0 ≤ d) (h1 : d < 18446744073709551616) (hf : Ie.cls d < 3) :
    Calls Tryz.prog 37 #[.int .u64 d] w fun e w' => ExTold d w e w' := by
  have D := hid (decode_any d w h0 h1)
  obtain ⟨m0, m1, e0, e1, mz⟩ := Ie.fdec d hf
  have FIN : Hid (∀ (w' : World) (s : ByteArray) (xs : List Int) (E : Int), Fx.Ex (Ie.dm d) (Ie.de d) xs E → Str s xs → Below w.heap.size w w' → ExTold d w (.returned (.tuple #[.string s, .int .i64 E])) w') := fun w' s xs E h hs hB => .of m0 h hs hB
  have HT := hid hT
  simp only [partsOf] at D
  generalize decide (9223372036854775808 ≤ d) = neg at *
  generalize Ie.dm d = m at *
  generalize Ie.de d = x at *
  generalize Ie.cls d = c at *
  clear hT h0 h1 hf
  by_cases hc : c = 0
  · subst hc
    have hm := mz.1 rfl
    subst hm
    have F0 : Hid (∀ (w' : World), Below w.heap.size w w' → ExTold d w (.returned (.tuple #[.string ⟨#[48]⟩, .int .i64 0])) w') := fun w' hB => FIN.out w' _ [48] 0 ⟨by omega, fun _ => ⟨rfl, rfl⟩, fun h => by omega, fun h => by omega⟩ rfl hB
    clear FIN mz HT
    go_enter Tryz.func37, Tryz.ntmps37
    go_wp2_with fail
    refine D.out.mono ?_
    rintro e w1 ⟨rfl, hB⟩
    have K := hid (F0.out _ (hB.trans ((alloc_b w1 (.cells #[.bool neg, .int .i64 0, .int .u64 0, .int .i64 x] 72)).mono hB.size)))
    clear hB F0 D
    go_wp2_with fail
    go_ret2
    exact K.out
  · have hc' : (c == 0) = false := by rw [beq_eq_false_iff_ne]; exact hc
    have hm : 0 < m := by rcases (show m = 0 ∨ 0 < m by omega) with h | h; exact absurd (mz.2 h) hc; exact h
    have TZ : Hid (∀ wx : World, Tab wx → Calls Tryz.prog 55 #[.int .u64 m] wx fun e w' => ∃ (t : Nat) (q : Int), e = .returned (.int .i64 t) ∧ t ≤ 63 ∧ Hid (m = 2 ^ t * q ∧ 0 < q ∧ q % 2 = 1) ∧ m / 2 ^ t = q ∧ 0 ≤ q ∧ q < 9007199254740992 ∧ w' = wx) := by
      intro wx hT
      refine (tz64 m wx hm (by omega) hT).mono ?_
      rintro e w' ⟨t, q, rfl, ht, hq, rfl⟩
      have hq' : m = 2 ^ t * (2 * q + 1) := hq
      have p2 : (0 : Int) < 2 ^ t := Int.pow_pos (by omega)
      have qp : 0 < 2 * q + 1 := by
        rcases (show 2 * q + 1 ≤ 0 ∨ 0 < 2 * q + 1 by omega) with h | h
        · have := Int.mul_nonpos_of_nonneg_of_nonpos (Int.le_of_lt p2) h
          omega
        · exact h
      have dv' : m / 2 ^ t = 2 * q + 1 := by rw [hq']; exact Int.mul_ediv_cancel_left _ (by omega)
      refine ⟨t, 2 * q + 1, rfl, ht, ⟨hq', qp, by omega⟩, dv', by omega, ?_, rfl⟩
      have : (1 : Int) * (2 * q + 1) ≤ 2 ^ t * (2 * q + 1) := Int.mul_le_mul_of_nonneg_right p2 (by omega)
      omega
    have XB := hid (And.intro e0 e1)
    clear mz hc hm
    go_enter Tryz.func37, Tryz.ntmps37
    go_wp2_with fail
    refine D.out.mono ?_
    rintro e w1 ⟨rfl, hB1⟩
    have HB1 := hid hB1
    clear hB1 D
    go_upto_region 4 with fail
    have hb := HB1.out.trans ((alloc_b w1 (.cells #[.bool neg, .int .i64 c, .int .u64 m, .int .i64 x] 72)).mono HB1.out.size)
    have P := Row4.new w1 72 (.bool neg) (.int .i64 c) (.int .u64 m) (.int .i64 x)
    obtain ⟨SS, KS, CS, BS, MS⟩ := state (fun w' => (w'.cell? ⟨w1.heap.size, 2, none⟩ = some (.int .u64 m) ∧ w'.cell? ⟨w1.heap.size, 3, none⟩ = some (.int .i64 x)) ∧ Tab w') w (((Stays.cell _ _).and (Stays.cell _ _)).and Stays.tab)
    have S0 := hid (MS.out _ ⟨⟨P.cells.1.2.2.1, P.cells.1.2.2.2⟩, HT.out.below hb⟩ hb)
    clear P hb HT HB1 MS
    generalize w1.alloc (.cells #[.bool neg, .int .i64 c, .int .u64 m, .int .i64 x] 72) = wA at *
    generalize w1.heap.size = b at *
    have CC : Hid (∀ wx : World, SS wx → (wx.cell? ⟨b, 2, none⟩ = some (.int .u64 m) ∧ wx.cell? ⟨b, 3, none⟩ = some (.int .i64 x))) := fun wx h => (CS.out wx h).1
    have T0 := hid (TZ.out _ (CS.out _ S0.out).2)
    obtain ⟨p2, p3⟩ := CC.out _ S0.out
    clear CS TZ
    go_wp2_with fail
    refine T0.out.mono ?_
    rintro e wz ⟨t, q, rfl, ht, HQ, dq, q0, q1, hz⟩
    replace hz := hz.symm
    subst hz
    have FU := hid (fun (wx : World) => fromUint_any q wx q0 (by omega))
    obtain ⟨y, hy⟩ : ∃ y, x + (t : Int) = y := ⟨_, rfl⟩
    have WK : IntKind.i64.wrap (x + (t : Int)) = y := by rw [IntKind.wrap_i64]; omega
    have WN : IntKind.i64.wrap y = y := by rw [IntKind.wrap_i64]; omega
    clear T0
    have S1 := hid (KS.out _ _ S0.out (drew_nil _))
    go_upto_region 5 with fail
    go_region_held3 (fun w' => w'.cell? ⟨b, 2, none⟩ = some (.int .u64 m) ∧ w'.cell? ⟨b, 3, none⟩ = some (.int .i64 x)) (first | (with_reducible exact CC.out _ S2.out) | (with_reducible exact CC.out _ S1.out)) (first
      | (go_at_call 56; refine (FU.out _).mono ?_; rintro e w2 ⟨p, os, rfl, A, hB⟩; have S2 := hid (KS.out _ _ S1.out hB); have A2 := hid A; clear hB A))
    all_goals
      by_cases hy0 : y < 0
      · obtain ⟨n, hn⟩ : ∃ n : Nat, -y = (n : Int) := ⟨(-y).toNat, by omega⟩
        have hn0 : (n : Int) ≤ 1074 := by omega
        have BH := hid (behind_any p os _ q (n : Int) n w2 A2.out HQ.out.2.1 (by omega) rfl (by omega))
        have KK : Hid (∀ (w3 : World) (s : ByteArray) (xs : List Int), DigT (q * 5 ^ n) s xs → Below w2.heap.size w2 w3 → ExTold d w (.returned (.tuple #[.string s, .int .i64 y])) w3) := by
          intro w3 s xs D hB
          refine FIN.out w3 s xs y ?_ D.str ((BS.out _ S2.out).trans (hB.mono (BS.out _ S2.out).size))
          rw [← hy]
          exact ex_odd HQ.out.1 HQ.out.2.1 HQ.out.2.2 XB.out.1 (by omega) D
        clear FIN A2 FU S0 S1 CC HQ dq hy WK p2 p3
        go_wp2_with fail
        refine BH.out.mono ?_
        rintro e w3 ⟨s, xs, rfl, D, hB⟩
        have K := hid (KK.out w3 s xs D hB)
        clear D hB KK BH
        go_wp2_with fail
        go_ret2
        exact K.out
      · obtain ⟨n, hn⟩ : ∃ n : Nat, y = (n : Int) := ⟨y.toNat, by omega⟩
        have hn0 : (n : Int) ≤ 1034 := by omega
        have room : q * 2 ^ n < 10 ^ (20 + n) := by
          have h1 := f2_10 n
          have h0 : (0 : Int) < 2 ^ n := Int.pow_pos (by omega)
          have h2 : q * 2 ^ n < 9007199254740992 * 2 ^ n := Int.mul_lt_mul_of_pos_right q1 h0
          rw [Int.pow_add]
          have e : (10 : Int) ^ 20 = 100000000000000000000 := by decide
          rw [e]
          omega
        have r0 : q < Nm.pw 4096 := Int.lt_trans (show q < 10 ^ 20 by rw [show (10 : Int) ^ 20 = 100000000000000000000 by decide]; omega) (fp10_pw (by omega))
        have SH := fshl_any p _ _ os (n : Int) n w2 (A2.out.argT r0) (A2.out.tsT r0) rfl (by rw [A2.out.2.2.2.1]; exact Int.lt_trans room (fp10_pw (by omega)))
        rw [A2.out.2.2.2.1] at SH
        have HS := hid SH
        have DG : Hid (∀ (w1 : World) (r : Option Addr) (zs : List Int) (B : Nat), Ans B w1 r zs (q * 2 ^ n) → Calls Tryz.prog 59 #[.slice r (List.length zs) (List.length zs)] w1 fun e w' => ∃ s xs, e = .returned (.tuple #[.string s, .int .i64 0]) ∧ DigT (q * 2 ^ n) s xs ∧ Below w1.heap.size w1 w') :=
          fun w1 r zs B A1 => fdigits_any r zs B _ w1 (20 + n) A1 (Int.mul_pos HQ.out.2.1 (Int.pow_pos (by omega))) (by omega) room
        have KK : Hid (∀ (w3 : World) (s s' : ByteArray) (xs : List Int) (k : Nat), DigT (q * 2 ^ n) s xs → Str s' (xs.take k) → k ≤ xs.length → (∀ i, k ≤ i → i < xs.length → xs.getD i 0 = 48) → (0 < k → xs.getD (k - 1) 0 ≠ 48) → Below w.heap.size w w3 → ExTold d w (.returned (.tuple #[.string s', .int .i64 ((s.size : Int) - (s'.size : Int))])) w3) := by
          intro w3 s s' xs k D hs hk g0 gl hB
          have z1 : s.size = xs.length := D.str.size
          have z2 : s'.size = k := by rw [hs.size, List.length_take]; omega
          rw [z1, z2]
          exact FIN.out w3 s' (xs.take k) _ (ex_whole HQ.out.1 HQ.out.2.1 XB.out.1 (by omega) D hk g0 gl) hs hB
        have hy1 : ¬ (n : Int) < 0 := by omega
        subst hn
        clear FIN A2 FU S0 S1 CC HQ dq hy WK p2 p3 SH room r0 hy0
        generalize q * 2 ^ n = T at *
        go_wp2_with fail
        refine HS.out.mono ?_
        rintro e w3 ⟨r, zs, rfl, A3, B3⟩
        have D3 := hid (DG.out w3 r zs _ A3)
        have HB3 := hid ((BS.out _ S2.out).trans (B3.mono (BS.out _ S2.out).size))
        clear A3 B3 HS DG
        go_wp2_with fail
        refine D3.out.mono ?_
        rintro e w4 ⟨s, xs, rfl, D4, B4⟩
        have HB4 := hid (HB3.out.trans (B4.mono HB3.out.size))
        have HD := hid D4
        have TR := hid (frtrim0_any s xs w4 D4.str (by have := D4.len; omega))
        have sz1 : (s.size : Int) ≤ 3000 := by have := D4.str.size; have := D4.len; omega
        clear D4 B4 D3 HB3
        go_wp2_with fail
        refine TR.out.mono ?_
        rintro e w5 ⟨⟨s', k, rfl, g1, g2, g3, g4⟩, hz⟩
        have sz2 : (s'.size : Int) ≤ (s.size : Int) := by rw [g1.size, HD.out.str.size, List.length_take]; omega
        have K := hid (KK.out w5 s s' xs k HD.out g1 g2 g3 g4 (by rw [hz]; exact HB4.out))
        clear g1 g2 g3 g4 hz TR KK HD HB4
        go_wp2_with fail
        go_ret2
        exact K.out
end Go.Proofs.YtjkefcikepnbpaaGreatDoor

namespace Go.Proofs.YtjkefcikepnbpaaGreatDoor
open Go Go.RowKit Go.Deep

namespace Fx
/-- The exact digits of a double, and their power. -/
noncomputable def X (d : Int) : List Int := xd (Ie.dm d) (Ie.de d)
noncomputable def P (d : Int) : Int := ed (Ie.dm d) (Ie.de d)
/-- What All answers. -/
noncomputable def aS (d : Int) : List Int := if Ie.fnt d = true then X d else []
noncomputable def aE (d : Int) : Int := if Ie.fnt d = true then P d else 0
def aN (d : Int) : Bool := Ie.fnt d && decide (9223372036854775808 ≤ d)
def aR (d : Int) : Int := if Ie.fnt d = true then 0 else 5

theorem X_ex {d : Int} (h : Ie.fnt d = true) : Ex (Ie.dm d) (Ie.de d) (X d) (P d) := ex_is (Ie.fdec d (of_decide_eq_true h)).1
theorem X_digs {d : Int} (h : Ie.fnt d = true) : Digs (X d) ∧ X d ≠ [] := (X_ex h).digs (Ie.fdec d (of_decide_eq_true h)).1
theorem X_zero {d : Int} (h : Ie.fnt d = true) (hz : Ie.dm d = 0) : X d = [48] ∧ P d = 0 := (X_ex h).zero hz
theorem X_room {d : Int} (h : Ie.fnt d = true) : -323 ≤ (X d).length + P d ∧ (X d).length + P d ≤ 309 ∧ -1074 ≤ P d ∧ (X d).length ≤ 1383 ∧ 1 ≤ (X d).length := by
  obtain ⟨m0, m1, e0, e1, _⟩ := Ie.fdec d (of_decide_eq_true h)
  have lo := (X_ex h).lo
  have l1 := List.length_pos_iff.2 (X_digs h).2
  rcases (show Ie.dm d = 0 ∨ 0 < Ie.dm d by omega) with c | c
  · obtain ⟨a, b⟩ := X_zero h c
    rw [a, b] at *
    simp
  · have r := (X_ex h).room c m1 e1
    omega
end Fx

def AllTold (d : Int) (w : World) (e : Ending) (w' : World) : Prop :=
  ∃ s, e = .returned (.tuple #[.agg #[.bool (Fx.aN d), .string s, .int .i64 (Fx.aE d)], .int .i64 (Fx.aR d)]) ∧ Str s (Fx.aS d) ∧ Below w.heap.size w w'

theorem and_sign (d : Int) (h0 : 0 ≤ d) (h1 : d < 18446744073709551616) : (bits .and .u64 d 9223372036854775808 != 0) = decide (9223372036854775808 ≤ d) := by
  rw [Ib.sign_and d h0 h1]
  rcases (show d < 9223372036854775808 ∨ 9223372036854775808 ≤ d by omega) with c | c
  · have e : d / 9223372036854775808 = 0 := by omega
    rw [e]
    simp
    omega
  · have e : d / 9223372036854775808 = 1 := by omega
    rw [e]
    simp [c]

set_option maxRecDepth 100000 in
set_option maxHeartbeats 2000000 in
theorem fall_any (d : Int) (w : World) (hT : Tab w) (h0 : 0 ≤ d) (h1 : d < 18446744073709551616) :
    Calls Tryz.prog 14 #[.int .u64 d] w fun e w' => AllTold d w e w' := by
  have FN := hid (fun wx : World => ffinite_any d wx h0 h1)
  have Z := FR3.new w (.bool false) (.string ⟨#[]⟩) (.int .i64 0)
  have ZB := alloc_b w (.cells #[.bool false, .string ⟨#[]⟩, .int .i64 0] 25)
  by_cases hf : Ie.fnt d = true
  · have G : Hid (∀ (w' : World) (s : ByteArray), Str s (Fx.X d) → Below w.heap.size w w' → AllTold d w (.returned (.tuple #[.agg #[.bool (decide (9223372036854775808 ≤ d)), .string s, .int .i64 (Fx.P d)], .int .i64 0])) w') := by
      intro w' s hs hB
      refine ⟨s, ?_, by rw [Fx.aS, if_pos hf]; exact hs, hB⟩
      rw [Fx.aN, Fx.aE, Fx.aR, if_pos hf, if_pos hf, hf, Bool.true_and]
    have EX : Hid (∀ wx : World, Tab wx → Calls Tryz.prog 37 #[.int .u64 d] wx fun e w' => ExTold d wx e w') := fun wx h => exact_any d wx h h0 h1 (of_decide_eq_true hf)
    have AS := and_sign d h0 h1
    have E1 := hid (EX.out _ (hT.below ZB))
    have HZ := hid (And.intro Z ZB)
    rw [hf] at FN
    clear Z ZB EX hT h0 h1 hf
    unfold ExTold at E1
    rw [← Fx.X, ← Fx.P] at E1
    generalize Fx.X d = X at *
    generalize Fx.P d = P at *
    generalize decide (9223372036854775808 ≤ d) = sn at *
    go_enter Tryz.func14, Tryz.ntmps14
    go_wp2_with fail
    refine (FN.out _).mono ?_
    rintro e wz ⟨rfl, hz⟩
    replace hz := hz.symm
    subst hz
    go_wp2_with fail
    refine E1.out.mono ?_
    rintro e w1 ⟨s, rfl, hs, hB⟩
    have Z1 := hid (HZ.out.1.below hB HZ.out.1.lt)
    have B1 := hid (HZ.out.2.trans (hB.mono HZ.out.2.size))
    have K := hid (G.out _ s hs (fset3_below (u0 := .bool sn) (u1 := .string s) (u2 := .int .i64 P) B1.out (Nat.le_refl _)))
    obtain ⟨⟨c0, c1, c2⟩, f0, f1, f2⟩ := Z1.out.cells
    clear hs hB HZ G E1 FN
    go_wp2_with fail
    (try simp only [Exit.inBlock, Exit.then])
    refine bodyPost_ret (fresults_row_tmp rfl _ _ w.heap.size 25 _ (0, 0) _ rfl (Z1.out.put _ _ _) Tryz.underlying25 rfl (by kernel_rfl)) rfl ?_
    exact K.out
  · have hf' : Ie.fnt d = false := by simpa using hf
    have G : Hid (∀ (w' : World), Below w.heap.size w w' → AllTold d w (.returned (.tuple #[.agg #[.bool false, .string ⟨#[]⟩, .int .i64 0], .int .i64 5])) w') := by
      intro w' hB
      refine ⟨⟨#[]⟩, ?_, by rw [Fx.aS, if_neg hf]; rfl, hB⟩
      rw [Fx.aN, Fx.aE, Fx.aR, if_neg hf, if_neg hf, hf', Bool.false_and]
    rw [hf'] at FN
    have HZ := hid (And.intro Z ZB)
    have K := hid (G.out _ ZB)
    obtain ⟨⟨c0, c1, c2⟩, f0, f1, f2⟩ := Z.cells
    clear Z ZB hT h0 h1 hf hf' G
    go_enter Tryz.func14, Tryz.ntmps14
    go_wp2_with fail
    refine (FN.out _).mono ?_
    rintro e wz ⟨rfl, hz⟩
    replace hz := hz.symm
    subst hz
    go_wp2_with fail
    (try simp only [Exit.inBlock, Exit.then])
    refine bodyPost_ret (fresults_row_tmp rfl _ _ w.heap.size 25 _ (0, 0) _ rfl HZ.out.1 Tryz.underlying25 rfl (by kernel_rfl)) rfl ?_
    exact K.out
end Go.Proofs.YtjkefcikepnbpaaGreatDoor
