/-
  Texts put together: NWritten, NInBase, QPow, QPowG, QPow5, FDigits, FDec, VTrimL, VTrimR, VClone, VDec, VOwn, VDig, VSlim, VNormA.
-/
import Derived.Test.YtbmlkfkhmaahnaaGreatDoorNSpread
import Derived.Test.YtbmlkfkhmaahnaaGreatDoorRA
import Derived.Test.YtbmlkfkhmaahnaaGreatDoorFromW
import Derived.Test.YtbmlkfkhmaahnaaGreatDoorBlenIs
import Derived.Test.YtbmlkfkhmaahnaaGreatDoorNums
import Derived.Test.YtbmlkfkhmaahnaaGreatDoorQLimbs
import Derived.Test.YtbmlkfkhmaahnaaGreatDoorTrimW
import Derived.Test.YtbmlkfkhmaahnaaGreatDoorIDec
import Derived.Shelf.Pu.Clone
import Derived.Test.YtbmlkfkhmaahnaaGreatDoorVNum2
import Derived.Laws.ResultCell
import Derived.Test.YtbmlkfkhmaahnaaGreatDoorVOrd
import Derived.Deep.Cut
import Derived.Deep.RegionHeld3
namespace Go.Proofs.YtbmlkfkhmaahnaaGreatDoor
open Go.RowKit Go.Deep

/-- The letters of a row of digits. -/
def lets (lt ds : List Int) : List Int := ds.map (fun d => lt.getD d.toNat 0)

/-- The list of powers, as spread wants it. -/
theorem RowsIn.pows {base g : Nat} {b A : Int} {pm : Option Addr} {K cp : Nat} {l : List (Option Addr × List Int)} {w w' : World} (h : RowsIn base b A (.slice pm K cp) l w) (hl : l.length = K) (hg : w.heap.size ≤ g) (hb : Below w.heap.size w w') (hA : A < Nm.pw 4096) : Pows g b pm K w' := by
  intro s hs
  have he : l[s]? = some l[s] := List.getElem?_eq_getElem (by omega)
  obtain ⟨h1, h2⟩ := h.row s _ he
  rcases h.own.2 with ⟨_, h0⟩ | ⟨gm, cp', cur, hv, _⟩
  · omega
  · simp only [Value.slice.injEq] at hv
    obtain ⟨rfl, hK, rfl⟩ := hv
    have hc := h.own.cells (g := gm) rfl s (rowV l[s]) (by rw [List.getElem?_map, he]; rfl)
    rw [Go.WideShapes.add_plain, Nat.zero_add] at hc
    have ht : Nm.tsize (l[s]).2 ≤ 4096 := (Nm.tsize_le_iff h1.2.1 4096).2 (by rw [h1.2.2.2.1]; exact Int.lt_of_le_of_lt h2 hA)
    refine ⟨gm, (l[s]).1, (l[s]).2, rfl, Nat.lt_of_lt_of_le (cell_lt hc) hg, ?_, ?_, h1.2.2.2.1, ht, fun a ha => Nat.lt_of_lt_of_le (h1.2.2.2.2 a ha).1 hg⟩
    · rw [hb.cell (p := ⟨gm, s, none⟩) (cell_lt hc)]
      exact hc
    · exact (h1.arg (by have := h1.2.2.1; omega)).below hb (Nat.le_refl _)

/-- On the way: the first t digits behind the zeros are letters. -/
def Lett (g J : Nat) (ds lt : List Int) (t : Nat) (w0 wr : World) : Prop :=
  ∃ es, OwnB wr g es ∧ es.length = ds.length ∧ (∀ i, i < t → es.getD (J + i) 0 = lt.getD (ds.getD (J + i) 0).toNat 0) ∧ (∀ i, t ≤ i → es.getD (J + i) 0 = ds.getD (J + i) 0) ∧ Only g w0 wr

theorem Lett.step {g J : Nat} {ds lt : List Int} {t : Nat} {w0 wr : World} (h : Lett g J ds lt t w0 wr) (ht : J + t < ds.length) {x : Int} (hx : x = lt.getD (ds.getD (J + t) 0).toNat 0) : Lett g J ds lt (t + 1) w0 (wr.setCell ⟨g, J + t, none⟩ (.int .u8 x)) := by
  obtain ⟨es, h1, h2, h3, h4, h5⟩ := h
  refine ⟨es.set (J + t) x, h1.set _ _, by simpa using h2, fun i hi => ?_, fun i hi => ?_, h5.trans (Only.set _ _)⟩
  · by_cases e : i = t
    · subst e
      simp [List.getD, show J + i < es.length by omega, hx]
    · have := h3 i (by omega)
      simpa [List.getD, List.getElem?_set, show ¬ t = i by omega] using this
  · have := h4 i (by omega)
    simpa [List.getD, List.getElem?_set, show ¬ t = i by omega] using this

theorem chain' {B : Nat} {a b c : World} (h : Below B a b) (k : Below B b c) : Below B a c := h.trans k

set_option maxRecDepth 100000 in
set_option maxHeartbeats 4000000 in
theorem written_any (p : Option Addr) (n cap : Nat) (za lt : List Int) (V B : Int) (ls : ByteArray) (w : World) (ha : Arg w p n cap za) (hV : Nm.val za = V) (ht : Nm.tsize za ≤ 4096) (h0 : 0 < V) (h2 : 2 ≤ B) (h36 : B ≤ 36) (hls : Str ls lt) (hlt : lt.length = 36) :
    Calls Tryz.prog 101 #[.slice p n cap, .int .u64 B, .string ls] w fun e w' => (∃ s L, e = .returned (.string s) ∧ V < B ^ L ∧ Str s (lets lt (Dn.strip (Dn.dg B L V)))) ∧ Below w.heap.size w w' := by
  have hAs : ShutN (V < Nm.pw 4096) := ⟨by rw [← hV]; exact (Nm.tsize_le_iff ha.2.2.2.2 4096).1 ht⟩
  have HV := hid hV
  have HA := hid ha
  have HT := hid ht
  have HS := hid hls
  have hsz : ls.size = 36 := by rw [hls.size, hlt]
  have GR := hid (group_any B w h2 h36)
  clear ha hV ht hls
  go_enter Tryz.func101, Tryz.ntmps101
  go_wp2_with fail
  refine GR.out.mono ?_
  rintro e w' ⟨⟨W, P, rfl, hP, hW1, hW63, hPl⟩, rfl⟩
  have hP2 : 2 ≤ P := by
    rw [hP, show W = W - 1 + 1 by omega, Int.pow_succ]
    have h1 : 1 ≤ B ^ (W - 1) := by have : 0 < B ^ (W - 1) := Int.pow_pos (by omega); omega
    have h3 := Int.mul_le_mul h1 h2 (by omega) (by omega)
    omega
  have HP := hid hP
  have FU := hid (fromUint_any P w' (by omega) hPl)
  have HPL := hid hPl
  clear GR hP hPl
  go_wp2_with fail
  refine FU.out.mono ?_
  rintro e w1 ⟨r1, os1, rfl, A1, d1⟩
  have SQ := hid (nsquares_any r1 p n cap os1 za P V _ w1 A1 hP2 HPL.out (HA.out.below d1 (Nat.le_refl _)) HV.out HT.out)
  have D1 := hid d1
  clear A1 d1 FU
  go_wp2_with fail
  refine SQ.out.mono ?_
  rintro e w2 ⟨mv, l, rfl, F2⟩
  obtain ⟨pm, cp, hmv, hcp⟩ : ∃ pm cp, mv = .slice pm l.length cp ∧ l.length ≤ cp := by
    rcases F2.out.1.own.2 with ⟨rfl, h0⟩ | ⟨gm, cp, cur, rfl, _, _, h1, _⟩
    · exact ⟨none, 0, by rw [h0], by omega⟩
    · exact ⟨_, cp, rfl, h1⟩
  subst hmv
  obtain ⟨K, HK⟩ : ∃ K, Hid (l.length = K) := ⟨_, rfl⟩
  have hK18 : (K : Int) ≤ 18 := by have := HK.out; have := F2.out.2.2.1; omega
  obtain ⟨L, HL⟩ : ∃ L, Hid (W * 2 ^ K = L) := ⟨_, rfl⟩
  have VL : ShutN (V < B ^ L) := ⟨by
    have h := F2.out.2.1
    rw [HP.out, HK.out, ← Int.pow_mul, HL.out] at h
    exact h⟩
  have D2 := hid (chain D1.out F2.out.2.2.2 (Nat.le_refl _))
  rw [HK.out] at F2 hcp
  rw [HK.out]
  have hL63 : L ≤ 63 * 262144 := by
    have h1 : 2 ^ K ≤ 2 ^ 18 := Nat.pow_le_pow_right (by omega) (by omega)
    have h2 := Nat.mul_le_mul hW63 h1
    have := HL.out
    omega
  have q1 : IntKind.i64.wrap ((W : Int) * 2 ^ K) = (L : Int) := by
    have e : (W : Int) * 2 ^ K = (L : Int) := by rw [← HL.out]; simp
    rw [e, IntKind.wrap_i64]
    omega
  have mk := make8 L (by omega) w2
  have bm : Below w2.heap.size w2 (w2.alloc (.cells (madeCells #[.int .u8 0] L) 5)) := (Below.refl _ _).alloc (Nat.le_refl _) _
  have ob : OwnB (w2.alloc (.cells (madeCells #[.int .u8 0] L) 5)) w2.heap.size (List.replicate L 0) := by rw [made_zero8]; exact OwnB.alloc w2 _
  obtain ⟨w3, hw3⟩ : ∃ w3, w2.alloc (.cells (madeCells #[.int .u8 0] L) 5) = w3 := ⟨_, rfl⟩
  rw [hw3] at mk bm ob
  have D3 := hid (chain D2.out bm (Nat.le_refl _))
  have hzl : 0 < za.length := by
    rcases Nat.eq_zero_or_pos za.length with c | c
    · have := HV.out
      rw [List.eq_nil_of_length_eq_zero c] at this
      simp [Nm.val] at this
      omega
    · exact c
  obtain ⟨g, HG⟩ : ∃ g, Hid (w2.heap.size = g) := ⟨_, rfl⟩
  rw [HG.out] at mk ob
  have PO := F2.out.1.pows HK.out (Nat.le_of_eq HG.out) bm hAs.out
  rw [HP.out] at PO
  have hwg : w'.heap.size ≤ g := by have := D2.out.size; have := HG.out; omega
  have SP := hid (spread_any B W g K cp pm h2 h36 hW1 hW63 (by rw [← HP.out]; exact HPL.out) (by omega) K (Nat.le_refl _) hcp 0 L L n cap p za (List.replicate L 0) V w3 HL.out.symm ob (by simp) (Nat.le_refl _) (by omega) (HA.out.below D3.out (Nat.le_refl _)) (fun a ha => by have := HA.out.2.2.2.1.lt hzl a ha; omega) HV.out VL.out HT.out PO)
  have HWG := hid hwg
  have HW63 := hid hL63
  clear PO bm ob hw3 hcp F2 SQ D1 D2 hwg hL63
  go_wp2_with fail
  refine SP.out.mono ?_
  rintro e w4 ⟨rfl, s4⟩
  obtain ⟨D, hD⟩ : ∃ D, Dn.dg B L V = D := ⟨_, rfl⟩
  have hDl : D.length = L := by rw [← hD]; exact Dn.dg_length B L V
  have O4 : Hid (OwnB w4 g D) := by
    have := s4.1
    rw [hD] at this
    simp only [put, List.take_zero, List.nil_append, hDl, Nat.zero_add, List.drop_replicate, Nat.sub_self, List.replicate_zero, List.append_nil] at this
    exact this
  have N4 := hid s4.2
  have hB0 : 0 < B := by omega
  have DM : Hid (∀ t, 0 ≤ D.getD t 0 ∧ D.getD t 0 < 36) := by
    intro t
    by_cases c : t < D.length
    · have e : D.getD t 0 = D[t] := by simp [List.getD, c]
      have := Dn.dg_mem hB0 L V (D[t]) (by rw [hD]; exact List.getElem_mem c)
      rw [e]
      omega
    · rw [show D.getD t 0 = 0 by simp [List.getD, List.getElem?_eq_none (show D.length ≤ t by omega)]]
      omega
  obtain ⟨J, hJ⟩ : ∃ J, Lead D J := Lead.ex (by
    rw [← hD]
    apply Dn.strip_ne (B := B)
    rw [Dn.tv_dg hB0 L V (by omega) VL.out]
    omega)
  have BT := hid (btrim_any g L J D w4 O4.out hDl hJ)
  have FIN : ShutN (∀ s, Str s (lets lt (D.drop J)) → ∃ s' L, Ending.returned (.string s) = .returned (.string s') ∧ V < B ^ L ∧ Str s' (lets lt (Dn.strip (Dn.dg B L V)))) :=
    ⟨fun s hs => ⟨s, L, rfl, VL.out, by rw [hD, hJ.strip]; exact hs⟩⟩
  have HDL := hid hDl
  have HJL : Hid (J < L) := by show _ < _; have := hJ.lt; omega
  have LE0 : Hid (Lett g J D lt 0 w4 w4) := ⟨D, O4.out, rfl, fun i hi => by omega, fun i _ => rfl, Only.refl _ _⟩
  clear s4 hD hDl hJ SP mk q1 VL O4
  go_wp2_with fail
  refine BT.out.mono ?_
  rintro e w5 ⟨rfl, rfl⟩
  obtain ⟨M, HM⟩ : ∃ M, Hid (L - J = M) := ⟨_, rfl⟩
  rw [HM.out]
  have hM : (M : Int) ≤ 16515072 := by have := HM.out; have := HW63.out; omega
  clear BT
  go_wp2_with fail
  go_loopw [11, 12, 36] (fun _ _ t wr => ∃ j : Nat, t = .int .i64 (j : Int) ∧ j ≤ M ∧ Hid (Lett g J D lt j w5 wr)) (fun _ _ t _ => M - (intOf t).toNat)
  case atStart => exact ⟨0, rfl, Nat.zero_le _, LE0.out⟩
  case round =>
    clear LE0
    obtain ⟨j, rfl, hj, I⟩ := hrel
    by_cases hlt : j < M
    · have hji : (j : Int) < (M : Int) := by omega
      have hJj : J + j < D.length := by have := HDL.out; have := HM.out; omega
      obtain ⟨es, i1, i2, i3, i4, i5⟩ := I.out
      obtain ⟨d, hd, X⟩ : ∃ d, wr.cell? ⟨g, J + j, none⟩ = some (.int .u8 d) ∧ Hid (d = D.getD (J + j) 0) := ⟨_, i1.cell (J + j) (by omega), i4 j (Nat.le_refl _)⟩
      have hfr := i1.free (J + j)
      have hd0 : 0 ≤ d := by rw [X.out]; exact (DM.out _).1
      have hd1 : d < 36 := by rw [X.out]; exact (DM.out _).2
      have ST : Hid (∀ x, x = lt.getD d.toNat 0 → Lett g J D lt (j + 1) w5 (wr.setCell ⟨g, J + j, none⟩ (.int .u8 x))) := fun x hx => I.out.step hJj (by rw [hx, X.out])
      clear i1 i2 i3 i4 i5 I hJj
      go_wp2_with fail
      go_roundw
      case rel => exact ⟨j + 1, by go_num, by omega, ST.out _ (HS.out.at _ _)⟩
      case measure => simp [intOf]; omega
    · obtain rfl : j = M := by omega
      obtain ⟨es, i1, i2, i3, i4, i5⟩ := I.out
      have hxl : (lets lt (D.drop J)).length = j := by simp [lets]; have := HDL.out; have := HM.out; omega
      have CV := run_convert_bytes_arg (P := Tryz.prog) wr 111 5 Tryz.underlying111 Tryz.underlying5 g J j j (lets lt (D.drop J)) hxl (fun i hi => by
        rw [i1.cell (J + i) (by have := HDL.out; have := HM.out; omega), i3 i hi]
        simp [lets, List.getD, List.getElem?_eq_getElem (show J + i < D.length by have := HDL.out; have := HM.out; omega)]) 9 Tryz.underlying9
      have FS := FIN.out _ (Str.of_nums (xs := lets lt (D.drop J)) (fun x hx => by
        obtain ⟨d, _, rfl⟩ := List.mem_map.1 hx
        exact HS.out.atb _))
      have D6 : Hid (Below w'.heap.size w' wr) := chain' D3.out ((N4.out.trans i5).below HWG.out D3.out.size)
      have HFS := hid FS
      clear i1 i2 i3 i4 i5 I hxl FS
      go_wp2_with fail
      go_ret
      exact ⟨HFS.out, D6.out⟩
end Go.Proofs.YtbmlkfkhmaahnaaGreatDoor

namespace Go.Proofs.YtbmlkfkhmaahnaaGreatDoor
open Go.RowKit Go.Deep

def smallL : List Int := [48, 49, 50, 51, 52, 53, 54, 55, 56, 57, 97, 98, 99, 100, 101, 102, 103, 104, 105, 106, 107, 108, 109, 110, 111, 112, 113, 114, 115, 116, 117, 118, 119, 120, 121, 122]
def capL : List Int := [48, 49, 50, 51, 52, 53, 54, 55, 56, 57, 65, 66, 67, 68, 69, 70, 71, 72, 73, 74, 75, 76, 77, 78, 79, 80, 81, 82, 83, 84, 85, 86, 87, 88, 89, 90]
def lettersOf (up : Bool) : List Int := if up then capL else smallL

/-- What InBase tells. -/
inductive InIs (zs : List Int) (B : Int) (up : Bool) : List Int → Int → Prop
  | big : 4096 < Nm.tsize zs → InIs zs B up [] 2
  | base : Nm.tsize zs ≤ 4096 → (B < 2 ∨ 36 < B) → InIs zs B up [] 32
  | zero : Nm.tsize zs = 0 → 2 ≤ B → B ≤ 36 → InIs zs B up [48] 0
  | ok (L : Nat) : 0 < Nm.tsize zs → Nm.tsize zs ≤ 4096 → 2 ≤ B → B ≤ 36 → Nm.val zs < B ^ L → InIs zs B up (lets (lettersOf up) (Dn.strip (Dn.dg B L (Nm.val zs)))) 0

theorem blen_big {zs : List Int} (hl : Nm.Limbs zs) : ∃ L : Nat, blen zs = (L : Int) ∧ (262144 < (L : Int) ↔ 4096 < Nm.tsize zs) ∧ ((L : Int) = 0 ↔ Nm.tsize zs = 0) := by
  obtain ⟨L, l1, l2, l3, l4⟩ := blen_is zs hl
  refine ⟨L, l1, ?_, ?_⟩
  · by_cases h : 0 < Nm.tsize zs
    · have := l4 h
      omega
    · omega
  · by_cases h : 0 < Nm.tsize zs
    · have := l4 h
      omega
    · omega

set_option maxRecDepth 100000 in
set_option maxHeartbeats 4000000 in
theorem inBase_any (p : Option Addr) (n cap : Nat) (za : List Int) (B : Int) (up : Bool) (w : World) (ha : Arg w p n cap za) (hB0 : -9223372036854775808 ≤ B) (hB1 : B ≤ 9223372036854775807) :
    Calls Tryz.prog 71 #[.slice p n cap, .int .i64 B, .bool up] w fun e w' => ∃ s xs E, e = .returned (.tuple #[.string s, .int .i64 E]) ∧ Str s xs ∧ InIs za B up xs E ∧ Below w.heap.size w w' := by
  obtain ⟨L, hL, hbig, hzero⟩ := blen_big ha.2.2.2.2
  have BL := hid (bitLen_isT L p n cap za w ha hL)
  have Z : Hid (Str ⟨#[]⟩ []) := rfl
  by_cases h1 : 4096 < Nm.tsize za
  · have hLi : (262144 : Int) < (L : Int) := hbig.2 h1
    have F : Hid (InIs za B up [] 2) := .big h1
    clear ha hL hbig hzero h1
    go_enter Tryz.func71, Tryz.ntmps71
    go_wp2_with fail
    refine BL.out.mono ?_
    rintro e w' ⟨rfl, rfl⟩
    go_wp2_with fail
    go_ret2
    exact ⟨_, _, _, rfl, Z.out, F.out, Below.refl _ _⟩
  have hLi : (L : Int) ≤ 262144 := by have := hbig.1; omega
  by_cases h2 : B < 2 ∨ 36 < B
  · have F : Hid (InIs za B up [] 32) := .base (by omega) h2
    clear ha hL hbig hzero h1
    rcases h2 with h2 | h2
    · go_enter Tryz.func71, Tryz.ntmps71
      go_wp2_with fail
      refine BL.out.mono ?_
      rintro e w' ⟨rfl, rfl⟩
      go_wp2_with fail
      go_ret2
      exact ⟨_, _, _, rfl, Z.out, F.out, Below.refl _ _⟩
    · go_enter Tryz.func71, Tryz.ntmps71
      go_wp2_with fail
      refine BL.out.mono ?_
      rintro e w' ⟨rfl, rfl⟩
      go_wp2_with fail
      go_ret2
      exact ⟨_, _, _, rfl, Z.out, F.out, Below.refl _ _⟩
  have h3 : 2 ≤ B := by omega
  have h4 : B ≤ 36 := by omega
  by_cases h5 : Nm.tsize za = 0
  · have F : Hid (InIs za B up [48] 0) := .zero h5 h3 h4
    have Z2 : Hid (Str ⟨#[48]⟩ [48]) := rfl
    have hL0 : (L : Int) = 0 := hzero.2 h5
    obtain rfl : L = 0 := by omega
    clear ha hL hbig hzero h1 h2 h5
    go_enter Tryz.func71, Tryz.ntmps71
    go_wp2_with fail
    refine BL.out.mono ?_
    rintro e w' ⟨rfl, rfl⟩
    go_wp2_with fail
    refine BL.out.mono ?_
    rintro e w' ⟨rfl, rfl⟩
    go_wp2_with fail
    go_ret2
    exact ⟨_, _, _, rfl, Z2.out, F.out, Below.refl _ _⟩
  · have hL0 : ((L : Int) == 0) = false := by rw [beq_eq_false_iff_ne]; intro c; exact h5 (hzero.1 c)
    have hv : 0 < Nm.val za := by
      have e1 := Nm.tsize_zero_iff ha.2.2.2.2
      have e2 := (Nm.val_bd za ha.2.2.2.2).1
      omega
    have F : Hid (∀ s L, Nm.val za < B ^ L → Str s (lets (lettersOf up) (Dn.strip (Dn.dg B L (Nm.val za)))) → ∃ s' xs E, Ending.returned (.tuple #[.string s, .int .i64 0]) = .returned (.tuple #[.string s', .int .i64 E]) ∧ Str s' xs ∧ InIs za B up xs E) := fun s L hl hs => ⟨s, _, 0, rfl, hs, .ok L (by omega) (by omega) h3 h4 hl⟩
    have WR : Hid (∀ ls, Str ls (lettersOf up) → Calls Tryz.prog 101 #[.slice p n cap, .int .u64 B, .string ls] w fun e w' => (∃ s L, e = .returned (.string s) ∧ Nm.val za < B ^ L ∧ Str s (lets (lettersOf up) (Dn.strip (Dn.dg B L (Nm.val za))))) ∧ Below w.heap.size w w') :=
      fun ls hls => written_any p n cap za (lettersOf up) _ B ls w ha rfl (by omega) hv h3 h4 hls (by cases up <;> rfl)
    clear ha hL hbig hzero h1 h2 h5 hv
    cases up with
    | true =>
      have W2 := hid (WR.out ⟨#[48, 49, 50, 51, 52, 53, 54, 55, 56, 57, 65, 66, 67, 68, 69, 70, 71, 72, 73, 74, 75, 76, 77, 78, 79, 80, 81, 82, 83, 84, 85, 86, 87, 88, 89, 90]⟩ rfl)
      go_enter Tryz.func71, Tryz.ntmps71
      go_wp2_with fail
      refine BL.out.mono ?_
      rintro e w' ⟨rfl, rfl⟩
      go_wp2_with fail
      refine BL.out.mono ?_
      rintro e w' ⟨rfl, rfl⟩
      go_wp2_with fail
      refine W2.out.mono ?_
      rintro e w1 ⟨⟨s, M, rfl, hM, hs⟩, d1⟩
      have G := hid (F.out s M hM hs)
      have D := hid d1
      clear hM hs d1
      go_wp2_with fail
      go_ret2
      obtain ⟨s', xs, E, k1, k2, k3⟩ := G.out
      exact ⟨s', xs, E, k1, k2, k3, D.out⟩
    | false =>
      have W2 := hid (WR.out ⟨#[48, 49, 50, 51, 52, 53, 54, 55, 56, 57, 97, 98, 99, 100, 101, 102, 103, 104, 105, 106, 107, 108, 109, 110, 111, 112, 113, 114, 115, 116, 117, 118, 119, 120, 121, 122]⟩ rfl)
      go_enter Tryz.func71, Tryz.ntmps71
      go_wp2_with fail
      refine BL.out.mono ?_
      rintro e w' ⟨rfl, rfl⟩
      go_wp2_with fail
      refine BL.out.mono ?_
      rintro e w' ⟨rfl, rfl⟩
      go_wp2_with fail
      refine W2.out.mono ?_
      rintro e w1 ⟨⟨s, M, rfl, hM, hs⟩, d1⟩
      have G := hid (F.out s M hM hs)
      have D := hid d1
      clear hM hs d1
      go_wp2_with fail
      go_ret2
      obtain ⟨s', xs, E, k1, k2, k3⟩ := G.out
      exact ⟨s', xs, E, k1, k2, k3, D.out⟩
end Go.Proofs.YtbmlkfkhmaahnaaGreatDoor

namespace Go.Proofs.YtbmlkfkhmaahnaaGreatDoor
open Go.RowKit Go.Deep

theorem len_any (x : Int) (l : Nat) (w : World) (h0 : 0 ≤ x) (h1 : x < 18446744073709551616) (hl : Lib.bitLen x.toNat = l) :
    Calls Tryz.prog 122 #[.int .u64 x] w fun e w' => e = .returned (.int .i64 (l : Int)) ∧ w' = w := by
  have L := len64 x w h0 h1
  rw [hl] at L
  have HL := hid L
  clear L hl
  go_enter Tryz.func122, Tryz.ntmps122
  go_wp2_with fail
  refine HL.out.mono ?_
  rintro e w' ⟨rfl, rfl⟩
  go_wp2_with fail
  go_ret
  exact ⟨rfl, rfl⟩

theorem one_bit_i64 (x : Nat) (h1 : x < 9223372036854775808) : bits .and .i64 (x : Int) 1 = ((x % 2 : Nat) : Int) := by
  have h : x &&& 1 = x % 2 := Nat.and_two_pow_sub_one_eq_mod x 1
  have e1 : (BitVec.ofInt 64 (x : Int)).toNat = x := by
    rw [BitVec.ofInt_natCast, BitVec.toNat_ofNat]; exact Nat.mod_eq_of_lt (by omega)
  have e2 : (BitVec.ofInt 64 (1 : Int)).toNat = 1 := by decide
  show IntKind.i64.wrap ((BitVec.ofInt 64 (x : Int) &&& BitVec.ofInt 64 (1 : Int)).toNat : Int) = _
  rw [BitVec.toNat_and, e1, e2, h]
  have : x % 2 < 2 := Nat.mod_lt _ (by omega)
  rw [IntKind.wrap_i64]
  omega

/-- The length of an exponent. -/
theorem exp_len (n : Nat) (h1 : 1 ≤ n) (h2 : n < 18446744073709551616) : ∃ j, Lib.bitLen n = j + 1 ∧ n / 2 ^ j = 1 ∧ j ≤ 63 := by
  have hb := Lib.bitLenAux_bounds 64 n (by simpa using h2) (by omega)
  rw [show Lib.bitLenAux 64 n = Lib.bitLen n from rfl] at hb
  have hs := bitLen_small n h2
  obtain ⟨j, hj⟩ : ∃ j, Lib.bitLen n = j + 1 := ⟨Lib.bitLen n - 1, by omega⟩
  rw [hj, Nat.add_sub_cancel] at hb
  refine ⟨j, hj, ?_, by omega⟩
  have p1 : 0 < 2 ^ j := Nat.pow_pos (by omega)
  rw [Nat.pow_succ] at hb
  exact Nat.div_eq_of_lt_le (by omega) (by omega)

set_option maxRecDepth 100000 in
set_option maxHeartbeats 2000000 in
theorem power_any (p : Option Addr) (m cap : Nat) (zs : List Int) (A : Int) (n : Nat) (w : World) (ha : Arg w p m cap zs) (tz : Nm.tsize zs ≤ 4096) (hA : Nm.val zs = A) (hA1 : 1 ≤ A) (h1 : 1 ≤ n) (h2 : n < 4611686018427387904) :
    Calls Tryz.prog 98 #[.slice p m cap, .int .i64 (n : Int)] w fun e w' => Gives (A ^ n) w e w' := by
  obtain ⟨j0, hj0, hj1, hj63⟩ := exp_len n h1 (by omega)
  have TR := hid (trim_any p m cap zs w ha)
  have HA := hid ha
  have HAs : Hid (A < Nm.pw 4096) := by show _ < _; rw [← hA]; exact (Nm.tsize_le_iff ha.2.2.2.2 4096).1 tz
  have HVA := hid hA
  have HT := hid tz
  have HA1 := hid hA1
  have HJ1 := hid hj1
  have hn0 : (0 : Int) ≤ (n : Int) := by omega
  have hn1 : (n : Int) < 4611686018427387904 := by omega
  have HL := hid hj0
  obtain ⟨l, hl⟩ : ∃ l, l = j0 + 1 := ⟨_, rfl⟩
  have rl : (l : Int) - 2 = (j0 : Int) - 1 := by omega
  have HLL := hid hl
  have hl64 : (l : Int) ≤ 64 := by omega
  have hl1 : (1 : Int) ≤ (l : Int) := by omega
  clear ha hA tz hA1 hj0 hj1 hl h1 h2
  go_enter Tryz.func98, Tryz.ntmps98
  go_wp2_with fail
  refine TR.out.mono ?_
  rintro e w1 ⟨r, os, rfl, -, A1, hb1⟩
  rw [HVA.out] at A1
  have HB1 := hid A1
  have D1 := hid hb1
  clear A1 hb1 TR
  go_wp2_with fail
  refine (len_any (n : Int) l _ hn0 (by omega) (by rw [Int.toNat_natCast, HL.out, HLL.out])).mono ?_
  rintro e w2 ⟨rfl, rfl⟩
  go_wp2_with fail
  go_loopw [6, 7] (fun o i wr => ∃ (j : Nat) (r : Option Addr) (os : List Int), j ≤ j0 ∧ i = .int .i64 ((j : Int) - 1) ∧ o = .slice r (List.length os) (List.length os) ∧ Hid (Ans w.heap.size wr r os (A ^ (n / 2 ^ j))) ∧ Hid (A ^ (n / 2 ^ j) < Nm.pw 4096) ∧ Hid (Below w.heap.size w wr)) (fun _ i _ => (intOf i + 1).toNat)
  case atStart => exact ⟨j0, r, os, Nat.le_refl _, by first | rfl | rw [rl], rfl, by rw [HJ1.out, Int.pow_succ, Int.pow_zero, Int.one_mul]; exact HB1.out, by rw [HJ1.out, Int.pow_succ, Int.pow_zero, Int.one_mul]; exact HAs.out, D1.out⟩
  case round =>
    clear HB1 D1 rl
    obtain ⟨j, r, os, hj, rfl, rfl, HO, HS, D⟩ := hrel
    by_cases hj0' : j = 0
    · subst hj0'
      have F : Hid (Gives (A ^ n) w (.returned (.tuple #[.slice r (List.length os) (List.length os), .int .i64 0])) wr) := by
        have h1 := HO.out
        have h2 := HS.out
        rw [Nat.pow_zero, Nat.div_one] at h1 h2
        exact ⟨.inl ⟨h2, r, os, rfl, h1⟩, D.out⟩
      go_wp2_with fail
      go_ret2
      exact F.out
    · obtain ⟨t, rfl⟩ : ∃ t, j = t + 1 := ⟨j - 1, by omega⟩
      have MU := hid (mul_gives r r _ _ _ _ os os (A ^ (n / 2 ^ (t + 1)) * A ^ (n / 2 ^ (t + 1))) wr (HO.out.argT HS.out) (HO.out.argT HS.out) (HO.out.tsT HS.out) (HO.out.tsT HS.out) (by rw [HO.out.2.2.2.1]))
      go_wp2_with fail
      refine MU.out.mono ?_
      rintro e w3 ⟨h | h, hb3⟩
      · obtain ⟨hs3, s, ss, rfl, A3⟩ := h
        have HB3 := hid (A3.upT (B' := w.heap.size) D.out.size)
        have HS3 := hid hs3
        have D3 := hid (chain D.out hb3 (Nat.le_refl _))
        obtain ⟨x, hx⟩ : ∃ x, n / 2 ^ t = x := ⟨_, rfl⟩
        have hx63 : x < 9223372036854775808 := by have : n / 2 ^ t ≤ n := Nat.div_le_self _ _; omega
        have r1 : (n : Int) / 2 ^ t = (x : Int) := by rw [← hx]; simp
        have r2 := one_bit_i64 x hx63
        have HX := hid hx
        clear hs3 A3 hb3 hx
        rcases (show x % 2 = 0 ∨ x % 2 = 1 by omega) with hb | hb
        · rw [hb] at r2
          have HE := hid (Pn.square A n t (by rw [HX.out]; exact hb))
          rw [HE.out] at HB3 HS3
          clear hb
          go_wp2_with fail
          go_roundw
          case rel => exact ⟨t, s, ss, by omega, by go_num, rfl, HB3, HS3, D3⟩
          case measure => simp [intOf]
        · rw [hb] at r2
          have HE := hid (Pn.square_odd A n t (by rw [HX.out]; exact hb))
          have HA3 := hid (HA.out.below D3.out (Nat.le_refl _))
          have MU2 := hid (mul_gives s p _ _ m cap ss zs (A ^ (n / 2 ^ t)) w3 (HB3.out.argT HS3.out) HA3.out (HB3.out.tsT HS3.out) HT.out (by rw [HB3.out.2.2.2.1, HVA.out]; exact HE.out))
          clear hb
          go_wp2_with fail
          refine MU2.out.mono ?_
          rintro e w4 ⟨h | h, hb4⟩
          · obtain ⟨hs4, s4, ss4, rfl, A4⟩ := h
            have HB4 := hid (A4.upT (B' := w.heap.size) D3.out.size)
            have HS4 := hid hs4
            have D4 := hid (chain D3.out hb4 (Nat.le_refl _))
            clear hs4 A4 hb4
            go_wp2_with fail
            go_roundw
            case rel => exact ⟨t, s4, ss4, by omega, by go_num, rfl, HB4, HS4, D4⟩
            case measure => simp [intOf]
          · obtain ⟨hs4, rfl⟩ := h
            have F : Hid (Gives (A ^ n) w (.returned (.tuple #[.slice none 0 0, .int .i64 2])) w4) :=
              ⟨.inr ⟨Int.le_trans hs4 (Pn.part_le HA1.out n t), rfl⟩, chain D3.out hb4 (Nat.le_refl _)⟩
            clear hs4 hb4
            go_wp2_with fail
            go_ret2
            exact F.out
      · obtain ⟨hs3, rfl⟩ := h
        have F : Hid (Gives (A ^ n) w (.returned (.tuple #[.slice none 0 0, .int .i64 2])) w3) :=
          ⟨.inr ⟨Int.le_trans hs3 (Pn.square_le HA1.out n t), rfl⟩, chain D.out hb3 (Nat.le_refl _)⟩
        clear hs3 hb3
        go_wp2_with fail
        go_ret2
        exact F.out
end Go.Proofs.YtbmlkfkhmaahnaaGreatDoor

namespace Go.Proofs.YtbmlkfkhmaahnaaGreatDoor
open Go.RowKit Go.Deep

theorem pow_big (p : Option Addr) (m cap : Nat) (zs : List Int) (k : Int) (w : World) (ha : Arg w p m cap zs) (tz : 4096 < Nm.tsize zs) :
    Calls Tryz.prog 67 #[.slice p m cap, .int .i64 k] w fun e w' => e = .returned (.tuple #[.slice none 0 0, .int .i64 2]) ∧ w' = w := by
  obtain ⟨L, l1, _, _, _⟩ := blen_is zs ha.2.2.2.2
  obtain ⟨N, HN⟩ : ∃ N, Hid (Nm.tsize zs = N) := ⟨_, rfl⟩
  have hN : (4096 : Int) < (N : Int) := by have := HN.out; omega
  have HB := hid (bitLen_isT L p m cap zs w ha l1)
  have HL := hid (limbs_isT p m cap zs N w ha HN.out)
  clear ha tz l1
  go_enter Tryz.func67, Tryz.ntmps67
  go_wp2_with fail
  refine HB.out.mono ?_
  rintro e w' ⟨rfl, rfl⟩
  go_wp2_with fail
  refine HL.out.mono ?_
  rintro e w' ⟨rfl, rfl⟩
  go_wp2_with fail
  go_ret2
  exact ⟨rfl, rfl⟩

theorem pow_neg (p : Option Addr) (m cap : Nat) (zs : List Int) (k : Int) (w : World) (ha : Arg w p m cap zs) (tz : Nm.tsize zs ≤ 4096) (hk : k < 0) :
    Calls Tryz.prog 67 #[.slice p m cap, .int .i64 k] w fun e w' => e = .returned (.tuple #[.slice none 0 0, .int .i64 1]) ∧ w' = w := by
  obtain ⟨L, l1, _, _, _⟩ := blen_is zs ha.2.2.2.2
  obtain ⟨N, HN⟩ : ∃ N, Hid (Nm.tsize zs = N) := ⟨_, rfl⟩
  have hN : (N : Int) ≤ 4096 := by have := HN.out; omega
  have HB := hid (bitLen_isT L p m cap zs w ha l1)
  have HL := hid (limbs_isT p m cap zs N w ha HN.out)
  clear ha tz l1
  go_enter Tryz.func67, Tryz.ntmps67
  go_wp2_with fail
  refine HB.out.mono ?_
  rintro e w' ⟨rfl, rfl⟩
  go_wp2_with fail
  refine HL.out.mono ?_
  rintro e w' ⟨rfl, rfl⟩
  go_wp2_with fail
  go_ret2
  exact ⟨rfl, rfl⟩

theorem one_lt_pw : (1 : Int) < Nm.pw 4096 := by
  have h := Nm.pw_mono (show 1 ≤ 4096 by omega)
  have e : Nm.pw 1 = 18446744073709551616 := by simp [Nm.pw]
  rw [e] at h
  generalize Nm.pw 4096 = x at *
  omega

set_option maxRecDepth 100000 in
set_option maxHeartbeats 1000000 in
theorem pow_gives (p : Option Addr) (m cap : Nat) (zs : List Int) (A k : Int) (n : Nat) (w : World) (ha : Arg w p m cap zs) (tz : Nm.tsize zs ≤ 4096) (hA : Nm.val zs = A) (hk : k = (n : Int)) (hk1 : k ≤ 9223372036854775807) :
    Calls Tryz.prog 67 #[.slice p m cap, .int .i64 k] w fun e w' => Gives (A ^ n) w e w' := by
  obtain ⟨L, l1, l2, l3, _⟩ := blen_is zs ha.2.2.2.2
  obtain ⟨N, HN⟩ : ∃ N, Hid (Nm.tsize zs = N) := ⟨_, rfl⟩
  have hN : (N : Int) ≤ 4096 := by have := HN.out; omega
  have HB := hid (bitLen_isT L p m cap zs w ha l1)
  have HL := hid (limbs_isT p m cap zs N w ha HN.out)
  have hL : (L : Int) ≤ 262144 := by omega
  have A0 := (Nm.val_bd zs ha.2.2.2.2).1
  rw [hA] at A0 l2
  have HAs : Hid (A < Nm.pw 4096) := by show _ < _; rw [← hA]; exact (Nm.tsize_le_iff ha.2.2.2.2 4096).1 tz
  have HA := hid ha
  have HT := hid tz
  have HVA := hid hA
  have HL2 := hid l2
  clear ha tz l1 l2 l3 hA
  subst hk
  by_cases h0 : n = 0
  · subst h0
    have F := hid (fromUint_any 1 w (by omega) (by omega))
    go_enter Tryz.func67, Tryz.ntmps67
    go_wp2_with fail
    refine HB.out.mono ?_
    rintro e w' ⟨rfl, rfl⟩
    go_wp2_with fail
    refine HL.out.mono ?_
    rintro e w' ⟨rfl, rfl⟩
    go_wp2_with fail
    refine F.out.mono ?_
    rintro e w1 ⟨r, os, rfl, A1, hb1⟩
    have G : Hid (Gives (A ^ 0) w' (.returned (.tuple #[.slice r (List.length os) (List.length os), .int .i64 0])) w1) :=
      ⟨.inl ⟨by rw [Int.pow_zero]; exact one_lt_pw, r, os, rfl, by rw [Int.pow_zero]; exact A1⟩, hb1⟩
    clear A1 hb1
    go_wp2_with fail
    go_ret2
    exact G.out
  have hn0 : ((n : Int) == 0) = false := by rw [beq_eq_false_iff_ne]; omega
  by_cases hL2 : L < 2
  · have hL2' : (L : Int) < 2 := by omega
    have E : Hid (A ^ n = A) := by
      have h := HL2.out.1
      have hA2 : A < 2 := by
        have := Nm.two_mono (show L ≤ 1 by omega)
        omega
      show _ = _
      obtain ⟨n', rfl⟩ : ∃ n', n = n' + 1 := ⟨n - 1, by omega⟩
      rcases (show A = 0 ∨ A = 1 by omega) with rfl | rfl
      · rw [Int.pow_succ, Int.mul_zero]
      · rw [Int.one_pow]
    have TR := hid (trim_any p m cap zs w HA.out)
    go_enter Tryz.func67, Tryz.ntmps67
    go_wp2_with fail
    refine HB.out.mono ?_
    rintro e w' ⟨rfl, rfl⟩
    go_wp2_with fail
    refine HL.out.mono ?_
    rintro e w' ⟨rfl, rfl⟩
    go_wp2_with fail
    refine TR.out.mono ?_
    rintro e w1 ⟨r, os, rfl, -, A1, hb1⟩
    rw [HVA.out] at A1
    have G : Hid (Gives (A ^ n) w' (.returned (.tuple #[.slice r (List.length os) (List.length os), .int .i64 0])) w1) := by
      rw [E.out]
      exact ⟨.inl ⟨HAs.out, r, os, rfl, A1⟩, hb1⟩
    clear A1 hb1
    go_wp2_with fail
    go_ret2
    exact G.out
  have hL2' : (2 : Int) ≤ (L : Int) := by omega
  have hA2 : Hid (2 ^ (L - 1) ≤ A) := by
    have h1 := HL2.out.2.2
    have h2 : 0 < A := by
      rcases (show A = 0 ∨ 0 < A by omega) with h | h
      · have := HL2.out.2.1 h; omega
      · exact h
    exact (h1 h2).2
  have hA1 : Hid (1 ≤ A) := by
    have := Nm.two_pos (L - 1)
    have := hA2.out
    show _ ≤ _
    omega
  obtain ⟨c, hc⟩ : ∃ c, 262143 / ((L : Int) - 1) = c := ⟨_, rfl⟩
  have d1 := Int.emod_add_mul_ediv 262143 ((L : Int) - 1)
  have d2 := Int.emod_nonneg 262143 (show (L : Int) - 1 ≠ 0 by omega)
  have d3 := Int.emod_lt_of_pos 262143 (show 0 < (L : Int) - 1 by omega)
  have d4 : 0 ≤ c := by rw [← hc]; exact Int.ediv_nonneg (by omega) (by omega)
  rw [hc] at d1
  have hc2 : (262143 : Int).tdiv ((L : Int) - 1) = c := by rw [Int.tdiv_eq_ediv_of_nonneg (by omega)]; exact hc
  have hz : (((L : Int) - 1) == 0) = false := by rw [beq_eq_false_iff_ne]; omega
  have hc3 : c ≤ 262143 := by
    have e1 : 1 * c ≤ ((L : Int) - 1) * c := Int.mul_le_mul_of_nonneg_right (by omega) d4
    omega
  by_cases hb : c < (n : Int)
  · have G : Hid (Gives (A ^ n) w (.returned (.tuple #[.slice none 0 0, .int .i64 2])) w) := by
      refine ⟨.inr ⟨Pn.early hA2.out ?_, rfl⟩, Below.refl _ _⟩
      have e1 : ((L : Int) - 1) * (c + 1) ≤ ((L : Int) - 1) * (n : Int) := Int.mul_le_mul_of_nonneg_left (by omega) (by omega)
      rw [Int.mul_add, Int.mul_one] at e1
      have e2 : (((L - 1) * n : Nat) : Int) = ((L : Int) - 1) * (n : Int) := by rw [Int.natCast_mul, show ((L - 1 : Nat) : Int) = (L : Int) - 1 by omega]
      omega
    clear d1 d2 d3
    go_enter Tryz.func67, Tryz.ntmps67
    go_wp2_with fail
    refine HB.out.mono ?_
    rintro e w' ⟨rfl, rfl⟩
    go_wp2_with fail
    refine HL.out.mono ?_
    rintro e w' ⟨rfl, rfl⟩
    go_wp2_with fail
    go_ret2
    exact G.out
  · have hb' : (n : Int) ≤ c := by omega
    have P := hid (power_any p m cap zs A n w HA.out HT.out HVA.out hA1.out (by omega) (by omega))
    clear d1 d2 d3 hb
    go_enter Tryz.func67, Tryz.ntmps67
    go_wp2_with fail
    refine HB.out.mono ?_
    rintro e w' ⟨rfl, rfl⟩
    go_wp2_with fail
    refine HL.out.mono ?_
    rintro e w' ⟨rfl, rfl⟩
    go_wp2_with fail
    refine P.out.mono ?_
    rintro e w1 ⟨h | h, hb1⟩
    · obtain ⟨h1, r, os, rfl, A1⟩ := h
      have G : Hid (Gives (A ^ n) w' (.returned (.tuple #[.slice r (List.length os) (List.length os), .int .i64 0])) w1) := ⟨.inl ⟨h1, r, os, rfl, A1⟩, hb1⟩
      clear h1 A1 hb1
      go_wp2_with fail
      go_ret2
      exact G.out
    · obtain ⟨h1, rfl⟩ := h
      have G : Hid (Gives (A ^ n) w' (.returned (.tuple #[.slice none 0 0, .int .i64 2])) w1) := ⟨.inr ⟨h1, rfl⟩, hb1⟩
      clear h1 hb1
      go_wp2_with fail
      go_ret2
      exact G.out
end Go.Proofs.YtbmlkfkhmaahnaaGreatDoor

namespace Go.Proofs.YtbmlkfkhmaahnaaGreatDoor
open Go.RowKit Go.Deep

theorem pow5_gives (k : Int) (n : Nat) (w : World) (hk : k = (n : Int)) (hk1 : k ≤ 9223372036854775807) :
    Calls Tryz.prog 47 #[.int .i64 k] w fun e w' => Gives (5 ^ n) w e w' := by
  have hb : Below w.heap.size w (w.alloc (.cells #[.int .u64 5] 22)) := (Below.refl _ _).alloc (Nat.le_refl _) _
  have A : Arg (w.alloc (.cells #[.int .u64 5] 22)) (some ⟨w.heap.size, 0, none⟩) 1 1 [5] := ⟨rfl, Nat.le_refl _, by omega, (Own.alloc w [5]).lies, limb_one (by omega)⟩
  have P := hid (pow_gives _ 1 1 [5] 5 k n _ A (by simp [Nm.tsize]) (by simp [Nm.val]) hk hk1)
  have HB := hid hb
  clear hb A hk
  go_enter Tryz.func47, Tryz.ntmps47
  go_wp2_with fail
  refine P.out.mono ?_
  rintro e w1 ⟨h | h, hb1⟩
  · obtain ⟨h1, r, os, rfl, A1⟩ := h
    have G : Hid (Gives (5 ^ n) w (.returned (.tuple #[.slice r (List.length os) (List.length os), .int .i64 0])) w1) := ⟨.inl ⟨h1, r, os, rfl, A1.upT HB.out.size⟩, chain HB.out hb1 (Nat.le_refl _)⟩
    clear h1 A1 hb1
    go_wp2_with fail
    go_ret2
    exact G.out
  · obtain ⟨h1, rfl⟩ := h
    have G : Hid (Gives (5 ^ n) w (.returned (.tuple #[.slice none 0 0, .int .i64 2])) w1) := ⟨.inr ⟨h1, rfl⟩, chain HB.out hb1 (Nat.le_refl _)⟩
    clear h1 hb1
    go_wp2_with fail
    go_ret2
    exact G.out
end Go.Proofs.YtbmlkfkhmaahnaaGreatDoor

namespace Go.Proofs.YtbmlkfkhmaahnaaGreatDoor
open Go Go.RowKit Go.Deep

theorem fp10_pw {j : Nat} (h : j ≤ 20000) : (10 : Int) ^ j < Nm.pw 4096 := by
  have h1 := Nat.pow_le_pow_left (show 10 ≤ 2 ^ 4 by decide) j
  rw [← Nat.pow_mul] at h1
  have e1 : ((10 ^ j : Nat) : Int) = 10 ^ j := by simp
  have e2 : ((2 ^ (4 * j) : Nat) : Int) = 2 ^ (4 * j) := by simp
  have h3 : (2 : Int) ^ (4 * j) < 2 ^ 262144 := by
    have h4 := Nm.two_mono (show 4 * j + 1 ≤ 262144 by omega)
    have h5 : (2 : Int) ^ (4 * j + 1) = 2 ^ (4 * j) * 2 := Int.pow_succ _ _
    have h6 : (0 : Int) < 2 ^ (4 * j) := Int.pow_pos (by omega)
    generalize (2 : Int) ^ 262144 = a at *
    omega
  rw [fpw_4096]
  omega

theorem f5_10 (n : Nat) : (5 : Int) ^ n ≤ 10 ^ n := by
  have h1 := Nat.pow_le_pow_left (show 5 ≤ 10 by decide) n
  have e1 : ((10 ^ n : Nat) : Int) = 10 ^ n := by simp
  have e2 : ((5 ^ n : Nat) : Int) = 5 ^ n := by simp
  omega
theorem f2_10 (n : Nat) : (2 : Int) ^ n ≤ 10 ^ n := by
  have h1 := Nat.pow_le_pow_left (show 2 ≤ 10 by decide) n
  have e1 : ((10 ^ n : Nat) : Int) = 10 ^ n := by simp
  have e2 : ((2 ^ n : Nat) : Int) = 2 ^ n := by simp
  omega

theorem fpow5_ok (k : Int) (n : Nat) (w : World) (hk : k = (n : Int)) (hn : n ≤ 20000) :
    Calls Tryz.prog 47 #[.int .i64 k] w fun e w' => ∃ r os, e = .returned (.tuple #[.slice r (List.length os) (List.length os), .int .i64 0]) ∧ Ans w.heap.size w' r os (5 ^ n) ∧ Below w.heap.size w w' := by
  refine (pow5_gives k n w hk (by omega)).mono ?_
  rintro e w' ⟨⟨_, r, os, rfl, A⟩ | ⟨h, _⟩, hB⟩
  · exact ⟨r, os, rfl, A, hB⟩
  · exact absurd (Int.lt_of_le_of_lt (f5_10 n) (fp10_pw hn)) (Int.not_lt.2 h)

/-- s writes T in base 10. -/
structure DigT (T : Int) (s : ByteArray) (xs : List Int) : Prop where
  str : Str s xs
  digs : Digs xs
  val : dv xs = T
  head : xs.getD 0 0 ≠ 48
  ne : xs ≠ []
  len : xs.length ≤ 3000

theorem small_dig : ∀ d : Int, 0 ≤ d → d < 10 → (lettersOf false).getD d.toNat 0 = d + 48 := by
  intro d h0 h1
  obtain ⟨n, rfl⟩ := Int.eq_ofNat_of_zero_le h0
  have : n < 10 := by omega
  match n, this with
  | 0, _ => rfl
  | 1, _ => rfl
  | 2, _ => rfl
  | 3, _ => rfl
  | 4, _ => rfl
  | 5, _ => rfl
  | 6, _ => rfl
  | 7, _ => rfl
  | 8, _ => rfl
  | 9, _ => rfl

theorem dig_lets {T : Int} {L K : Nat} {s : ByteArray} (h0 : 0 < T) (hL : T < 10 ^ L) (hK : K ≤ 2000) (hb : T < 10 ^ K) (hs : Str s (lets (lettersOf false) (Dn.strip (Dn.dg 10 L T)))) : DigT T s (lets (lettersOf false) (Dn.strip (Dn.dg 10 L T))) := by
  have mem : ∀ d ∈ Dn.strip (Dn.dg 10 L T), 0 ≤ d ∧ d < 10 := fun d hd => Dn.dg_mem (by omega) L T d (Dn.strip_mem hd)
  have e : lets (lettersOf false) (Dn.strip (Dn.dg 10 L T)) = (Dn.strip (Dn.dg 10 L T)).map (fun d => d + 48) := List.map_congr_left fun d hd => small_dig d (mem d hd).1 (mem d hd).2
  have v : Dn.tv 10 0 (Dn.strip (Dn.dg 10 L T)) = T := by rw [Dn.tv_strip]; exact Dn.tv_dg (by omega) L T (by omega) hL
  have ne : Dn.strip (Dn.dg 10 L T) ≠ [] := by
    intro c
    rw [c] at v
    simp [Dn.tv] at v
    omega
  have dg : Digs (lets (lettersOf false) (Dn.strip (Dn.dg 10 L T))) := by
    rw [e]
    intro d hd
    obtain ⟨x, hx, rfl⟩ := List.mem_map.1 hd
    have := mem x hx
    omega
  have dvT : dv (lets (lettersOf false) (Dn.strip (Dn.dg 10 L T))) = T := by
    rw [e]
    unfold dv
    rw [List.map_map, show ((fun d : Int => d - 48) ∘ fun d => d + 48) = id from funext fun d => by simp, List.map_id]
    exact v
  have hd : (lets (lettersOf false) (Dn.strip (Dn.dg 10 L T))).getD 0 0 ≠ 48 := by
    rw [e]
    match hm : Dn.strip (Dn.dg 10 L T), ne with
    | x :: ys, _ =>
      have := Dn.strip_head hm
      simp
      omega
  have nn : lets (lettersOf false) (Dn.strip (Dn.dg 10 L T)) ≠ [] := by rw [e]; simpa using ne
  refine ⟨hs, dg, dvT, hd, nn, ?_⟩
  obtain ⟨n, hn⟩ : ∃ n, (lets (lettersOf false) (Dn.strip (Dn.dg 10 L T))).length = n + 1 := ⟨(lets (lettersOf false) (Dn.strip (Dn.dg 10 L T))).length - 1, by have := List.length_pos_iff.2 nn; omega⟩
  have := Fx.head_low dg hn hd
  rw [dvT] at this
  have := Fx.p_lt (a := n) (b := K) (Int.lt_of_le_of_lt this hb)
  omega

set_option maxRecDepth 100000 in
theorem fdigits_any (p : Option Addr) (os : List Int) (B : Nat) (T : Int) (w : World) (K : Nat) (A : Ans B w p os T) (h0 : 0 < T) (hK : K ≤ 2000) (hb : T < 10 ^ K) :
    Calls Tryz.prog 49 #[.slice p (List.length os) (List.length os)] w fun e w' => ∃ s xs, e = .returned (.tuple #[.string s, .int .i64 0]) ∧ DigT T s xs ∧ Below w.heap.size w w' := by
  have hp : T < Nm.pw 4096 := Int.lt_trans hb (fp10_pw (by omega))
  have IB : Hid (Calls Tryz.prog 71 #[.slice p (List.length os) (List.length os), .int .i64 10, .bool false] w fun e w' => ∃ s xs, e = .returned (.tuple #[.string s, .int .i64 0]) ∧ DigT T s xs ∧ Below w.heap.size w w') := by
    refine (inBase_any p _ _ os 10 false w (A.argT hp) (by omega) (by omega)).mono ?_
    rintro e w' ⟨s, xs, E, rfl, hs, h, hB⟩
    have ts := A.tsT hp
    have hv : Nm.val os = T := A.2.2.2.1
    cases h with
    | big c => omega
    | base _ c => omega
    | zero c _ _ =>
      have := (Nm.tsize_zero_iff A.2.1).1 c
      omega
    | ok L c1 c2 c3 c4 c5 =>
      rw [hv] at c5 hs
      exact ⟨s, _, rfl, dig_lets h0 c5 hK hb hs, hB⟩
  clear A h0 hb hp hK
  go_enter Tryz.func49, Tryz.ntmps49
  go_wp2_with fail
  refine IB.out.mono ?_
  rintro e w' ⟨s, xs, rfl, D, hB⟩
  have HD := hid (And.intro D hB)
  clear D hB IB
  go_wp2_with fail
  go_ret2
  exact ⟨s, xs, rfl, HD.out.1, HD.out.2⟩
end Go.Proofs.YtbmlkfkhmaahnaaGreatDoor

namespace Go.Proofs.YtbmlkfkhmaahnaaGreatDoor
open Go Go.RowKit Go.Deep

theorem Ie.fdec (d : Int) (h : Ie.cls d < 3) : 0 ≤ Ie.dm d ∧ Ie.dm d < 9007199254740992 ∧ -1074 ≤ Ie.de d ∧ Ie.de d ≤ 971 ∧ (Ie.cls d = 0 ↔ Ie.dm d = 0) := by
  have fb := Ie.fld_bd d
  unfold Ie.dm Ie.de
  unfold Ie.cls at *
  by_cases a : Ie.fld d = 0
  · rw [if_pos a] at *
    by_cases b : d % 4503599627370496 = 0
    · simp only [if_pos b]
      simp
    · simp only [if_neg b]
      simp
      omega
  · rw [if_neg a] at *
    by_cases b : Ie.fld d = 2047
    · rw [if_pos b] at *
      by_cases c : d % 4503599627370496 = 0
      · rw [if_pos c] at h; omega
      · rw [if_neg c] at h; omega
    · simp only [if_neg b]
      simp
      omega

theorem fretB {a b : Bool} (h : a = b) : Ending.returned (.bool a) = .returned (.bool b) := by rw [h]

/-- No NaN and no infinity. -/
def Ie.fnt (d : Int) : Bool := decide (Ie.cls d < 3)

end Go.Proofs.YtbmlkfkhmaahnaaGreatDoor

namespace Go.Proofs.YtbmlkfkhmaahnaaGreatDoor
open Go.RowKit Go.Deep

/-- s' is s without some zeros at its head, and opens with none. -/
def Bared (xs : List Int) (s' : ByteArray) (j : Nat) : Prop := Str s' (xs.drop j) ∧ j ≤ xs.length ∧ (∀ i, i < j → xs.getD i 0 = 48)

def STold (xs : List Int) (e : Ending) : Prop := ∃ s' j, e = .returned (.string s') ∧ Bared xs s' j ∧ (j < xs.length → xs.getD j 0 ≠ 48)

set_option maxRecDepth 100000 in
set_option maxHeartbeats 1000000 in
theorem strim1_any (s : ByteArray) (xs : List Int) (w : World) (hs : Str s xs) (hn1 : xs.length ≤ 562949953421312) :
    Calls Tryz.prog 112 #[.string s, .int .u8 48] w fun e w' => STold xs e ∧ w' = w := by
  have HS := hid hs
  have HN := hid hn1
  clear hs hn1
  go_enter Tryz.func112, Tryz.ntmps112
  go_wp2_with fail
  go_loop [0] (fun c => ∃ s' j, c = .string s' ∧ Hid (Bared xs s' j)) (fun c => match c with | .string s' => s'.size | _ => 0)
  case atStart => exact ⟨s, 0, rfl, HS.out, Nat.zero_le _, fun i hi => by omega⟩
  case round =>
    obtain ⟨s', j, rfl, I⟩ := hrel
    obtain ⟨m, HM⟩ : ∃ m, Hid (s'.size = m) := ⟨_, rfl⟩
    have hsz : s'.size = m := HM.out
    have hjm : Hid (j + m = xs.length) := by show _ = _; have := I.out.1.size; have := I.out.2.1; have := HM.out; simp at *; omega
    have hmb : (m : Int) ≤ 562949953421312 := by have := HN.out; have := hjm.out; omega
    by_cases h0 : m = 0
    · subst h0
      have F : Hid (STold xs (.returned (.string s'))) := ⟨s', j, rfl, I.out, fun h => by have := hjm.out; omega⟩
      clear I
      go_wp2_with fail
      go_ret
      exact ⟨F.out, rfl⟩
    · have hm : 0 < m := by omega
      have hmi : (0 : Int) < (m : Int) := by omega
      obtain ⟨x, X⟩ : ∃ x, Hid (xs.getD j 0 = x) := ⟨_, rfl⟩
      have hx : ∀ h : 0 < s'.size, ((s'[0]'h).toNat : Int) = x := fun h => by rw [I.out.1.at 0 h, ← X.out]; simp [List.getD]
      by_cases hd : x = 48
      · subst hd
        have F : Hid (Bared xs (s'.extract 1 s'.size) (j + 1)) := by
          refine ⟨?_, by have := hjm.out; omega, fun i hi => ?_⟩
          · have := I.out.1.extract 1 s'.size
            rw [List.drop_drop, List.take_of_length_le (by have := hjm.out; have := HM.out; simp; omega)] at this
            exact this
          · by_cases e : i = j
            · subst e; exact X.out
            · exact I.out.2.2 i (by omega)
        rw [hsz] at F
        have SZ : Hid ((s'.extract 1 m).size < s'.size) := by
          show _ < _
          have e1 := F.out.1.size
          have e2 := HM.out
          have e3 := hjm.out
          simp only [List.length_drop] at e1
          omega
        clear I
        go_wp2_with fail
        go_round
        case rel => exact ⟨_, _, rfl, F.out⟩
        case measure => exact SZ.out
      · have hd2 : (x == 48) = false := by rw [beq_eq_false_iff_ne]; exact hd
        have F : Hid (STold xs (.returned (.string s'))) := ⟨s', j, rfl, I.out, fun _ => by rw [X.out]; exact hd⟩
        clear I
        go_wp2_with fail
        go_ret
        exact ⟨F.out, rfl⟩

set_option maxRecDepth 100000 in
theorem strim_any (s : ByteArray) (xs : List Int) (w : World) (hs : Str s xs) (hn1 : xs.length ≤ 562949953421312) :
    Calls Tryz.prog 89 #[.string s, .string ⟨#[48]⟩] w fun e w' => STold xs e ∧ w' = w := by
  have T := hid (strim1_any s xs w hs hn1)
  by_cases h : xs = []
  · have F : Hid (STold xs (.returned (.string s))) := ⟨s, 0, rfl, ⟨by simpa using hs, Nat.zero_le _, fun i hi => by omega⟩, fun hlt => by rw [h] at hlt; simp at hlt⟩
    have hs0 : s = ⟨#[]⟩ := hs.inj (by rw [h]; rfl)
    subst hs0
    clear hs hn1 h
    go_enter Tryz.func89, Tryz.ntmps89
    go_wp2_with fail
    go_ret
    exact ⟨F.out, rfl⟩
  · have e0 := hs.eq (t := ⟨#[]⟩) (ys := []) rfl
    rw [decide_eq_false h] at e0
    have e1 : s.toList ≠ [] := by
      intro c
      apply h
      rw [ByteArray.toList_eq] at c
      rw [← hs, c]
      rfl
    have e2 : (s.toList == []) = false := by rw [beq_eq_false_iff_ne]; exact e1
    have e3 : s.toList.isEmpty = false := by rw [List.isEmpty_eq_false_iff]; exact e1
    clear hs hn1 h
    go_enter Tryz.func89, Tryz.ntmps89
    go_wp2_with fail
    refine T.out.mono ?_
    rintro e w' ⟨h1, rfl⟩
    obtain ⟨s', j, rfl, h2⟩ := h1
    have F : Hid (STold xs (.returned (.string s'))) := ⟨s', j, rfl, h2⟩
    clear h2 T
    go_wp2_with fail
    go_ret
    exact ⟨F.out, rfl⟩
end Go.Proofs.YtbmlkfkhmaahnaaGreatDoor

namespace Go.Proofs.YtbmlkfkhmaahnaaGreatDoor
open Go.RowKit Go.Deep

/-- s' is s without some zeros at its end, and ends with none. -/
def VTail (xs : List Int) (e : Ending) : Prop := ∃ s' k, e = .returned (.string s') ∧ Str s' (xs.take k) ∧ k ≤ xs.length ∧ (∀ i, k ≤ i → i < xs.length → xs.getD i 0 = 48) ∧ (0 < k → xs.getD (k - 1) 0 ≠ 48)

set_option maxRecDepth 100000 in
set_option maxHeartbeats 1000000 in
theorem vrtrim_any (s : ByteArray) (xs : List Int) (w : World) (hs : Str s xs) (hn1 : xs.length ≤ 562949953421312) :
    Calls Tryz.prog 116 #[.string s, .int .u8 48] w fun e w' => VTail xs e ∧ w' = w := by
  have HS := hid hs
  have HN := hid hn1
  clear hs hn1
  go_enter Tryz.func116, Tryz.ntmps116
  go_wp2_with fail
  go_loop [0] (fun c => ∃ s' m, c = .string s' ∧ Hid (Str s' (xs.take m) ∧ m ≤ xs.length ∧ s'.size = m ∧ (∀ i, m ≤ i → i < xs.length → xs.getD i 0 = 48))) (fun c => match c with | .string s' => s'.size | _ => 0)
  case atStart => exact ⟨s, xs.length, rfl, by rw [List.take_length]; exact HS.out, Nat.le_refl _, HS.out.size, fun i h1 h2 => by omega⟩
  case round =>
    obtain ⟨s', m, rfl, I⟩ := hrel
    have hsz : s'.size = m := I.out.2.2.1
    have hmb : (m : Int) ≤ 562949953421312 := by have := HN.out; have := I.out.2.1; omega
    by_cases h0 : m = 0
    · subst h0
      have F : Hid (VTail xs (.returned (.string s'))) := ⟨s', 0, rfl, I.out.1, Nat.zero_le _, I.out.2.2.2, fun h => by omega⟩
      clear I
      go_wp2_with fail
      go_ret
      exact ⟨F.out, rfl⟩
    · obtain ⟨u, hu⟩ : ∃ u, m = u + 1 := ⟨m - 1, by omega⟩
      have hmi : (0 : Int) < (m : Int) := by omega
      have hmu : (m : Int) - 1 = (u : Int) := by omega
      have hum : (u : Int) < (m : Int) := by omega
      obtain ⟨x, X⟩ : ∃ x, Hid (xs.getD u 0 = x) := ⟨_, rfl⟩
      have hx : ∀ h : u < s'.size, ((s'[u]'h).toNat : Int) = x := fun h => by
        rw [I.out.1.at u h, ← X.out]
        simp [List.getD, show u < m by omega]
      have HU := hid hu
      by_cases hd : x = 48
      · subst hd
        have F : Hid (Str (s'.extract 0 u) (xs.take u) ∧ u ≤ xs.length ∧ (s'.extract 0 u).size = u ∧ (∀ i, u ≤ i → i < xs.length → xs.getD i 0 = 48)) := by
          have e := I.out.1.extract 0 u
          rw [List.drop_zero, Nat.sub_zero, List.take_take, show min u m = u by omega] at e
          refine ⟨e, by have := I.out.2.1; omega, by rw [e.size]; have := I.out.2.1; simp; omega, fun i h1 h2 => ?_⟩
          by_cases c : i = u
          · subst c; exact X.out
          · exact I.out.2.2.2 i (by omega) h2
        have SZ : Hid ((s'.extract 0 u).size < s'.size) := by show _ < _; rw [F.out.2.2.1, hsz]; omega
        clear I hu h0
        go_wp2_with fail
        go_round
        case rel => exact ⟨_, _, rfl, F.out⟩
        case measure => exact SZ.out
      · have hd2 : (x == 48) = false := by rw [beq_eq_false_iff_ne]; exact hd
        have F : Hid (VTail xs (.returned (.string s'))) := ⟨s', m, rfl, I.out.1, I.out.2.1, I.out.2.2.2, fun _ => by rw [show m - 1 = u by omega, X.out]; exact hd⟩
        clear I hu h0
        go_wp2_with fail
        go_ret
        exact ⟨F.out, rfl⟩


set_option maxRecDepth 100000 in
theorem vrtrim0_any (s : ByteArray) (xs : List Int) (w : World) (hs : Str s xs) (hn1 : xs.length ≤ 562949953421312) :
    Calls Tryz.prog 90 #[.string s, .string ⟨#[48]⟩] w fun e w' => VTail xs e ∧ w' = w := by
  have T := hid (vrtrim_any s xs w hs hn1)
  by_cases h : xs = []
  · have F : Hid (VTail xs (.returned (.string s))) := ⟨s, 0, rfl, by rw [h] at hs ⊢; exact hs, Nat.zero_le _, fun i _ hi => by rw [h] at hi; simp at hi, fun hlt => by omega⟩
    have hs0 : s = ⟨#[]⟩ := hs.inj (by rw [h]; rfl)
    subst hs0
    clear hs hn1 h
    go_enter Tryz.func90, Tryz.ntmps90
    go_wp2_with fail
    go_ret
    exact ⟨F.out, rfl⟩
  · have e1 : s.toList ≠ [] := by
      intro c
      apply h
      rw [ByteArray.toList_eq] at c
      rw [← hs, c]
      rfl
    have e2 : (s.toList == []) = false := by rw [beq_eq_false_iff_ne]; exact e1
    have e3 : s.toList.isEmpty = false := by rw [List.isEmpty_eq_false_iff]; exact e1
    clear hs hn1 h
    go_enter Tryz.func90, Tryz.ntmps90
    go_wp2_with fail
    refine T.out.mono ?_
    rintro e w' ⟨h1, rfl⟩
    obtain ⟨s', j, rfl, h2⟩ := h1
    have F : Hid (VTail xs (.returned (.string s'))) := ⟨s', j, rfl, h2⟩
    clear h2 T
    go_wp2_with fail
    go_ret
    exact ⟨F.out, rfl⟩
end Go.Proofs.YtbmlkfkhmaahnaaGreatDoor

namespace Go.Proofs.YtbmlkfkhmaahnaaGreatDoor
open Go.RowKit Go.Deep Go.Shelf

def vcloneRen : Go.Shelf.Ren := ⟨fun _ => 91, fun t => if t = 37 then 111 else if t = 47 then 150 else if t = 5 then 5 else if t = 9 then 9 else if t = 3 then 3 else t, fun g => g⟩
theorem vcloneLays : LaysPu.n25 Tryz.prog vcloneRen where
  mixed := by kernel_rfl
  f25 := by kernel_rfl
  t0 := by kernel_rfl
  a0 := fun _ => by kernel_rfl
  z0 := fun _ => by kernel_rfl
  v0 := fun _ => by kernel_rfl
  i0 := by kernel_rfl
  t3 := by kernel_rfl
  a3 := fun _ => by kernel_rfl
  z3 := fun _ => by kernel_rfl
  v3 := fun _ => by kernel_rfl
  i3 := by kernel_rfl
  t4 := by kernel_rfl
  a4 := fun _ => by kernel_rfl
  z4 := fun _ => by kernel_rfl
  v4 := fun _ => by kernel_rfl
  i4 := by kernel_rfl
  t5 := by kernel_rfl
  a5 := fun _ => by kernel_rfl
  z5 := fun _ => by kernel_rfl
  v5 := fun _ => by kernel_rfl
  i5 := by kernel_rfl
  t9 := by kernel_rfl
  a9 := fun _ => by kernel_rfl
  z9 := fun _ => by kernel_rfl
  v9 := fun _ => by kernel_rfl
  i9 := by kernel_rfl
  t37 := by kernel_rfl
  a37 := fun _ => by kernel_rfl
  z37 := fun _ => by kernel_rfl
  v37 := fun _ => by kernel_rfl
  i37 := by kernel_rfl
  t47 := by kernel_rfl
  a47 := fun _ => by kernel_rfl
  z47 := fun _ => by kernel_rfl
  v47 := fun _ => by kernel_rfl
  i47 := by kernel_rfl

theorem vclone_any (s : ByteArray) (w : World) (hs : s.size ≤ 281474976710656) : Calls Tryz.prog 62 #[.string s] w fun e w' => e = .returned (.string s) ∧ Below w.heap.size w w' := by
  have C : Hid (Calls Tryz.prog 91 #[.string s] w fun e w' => e = .returned (.string s) ∧ Below w.heap.size w w') := AnyPu.stringslite_Clone vcloneLays s w (by omega)
  go_enter Tryz.func62, Tryz.ntmps62
  go_wp2_with fail
  refine C.out.mono ?_
  rintro e w1 ⟨rfl, d1⟩
  have D := hid d1
  clear d1
  go_wp2_with fail
  go_ret
  exact ⟨rfl, D.out⟩
end Go.Proofs.YtbmlkfkhmaahnaaGreatDoor

namespace Go.Proofs.YtbmlkfkhmaahnaaGreatDoor
open Go Go.RowKit Go.Deep

def decV (neg : Bool) (s : ByteArray) (e : Int) : Value := .agg #[.bool neg, .string s, .int .i64 e]
/-- A value is this Dec. -/
def DecIs (v : Value) (d : Sc.D) : Prop := ∃ s, v = decV d.neg s d.e ∧ Str s d.ds

/-- Three cells that may be written. -/
def Row3 (w : World) (b : Nat) (v0 v1 v2 : Value) : Prop := w.heap[b]? = some (.cells #[v0, v1, v2] 25 (0, 0))
theorem Row3.new (w : World) (v0 v1 v2 : Value) : Row3 (w.alloc (.cells #[v0, v1, v2] 25)) w.heap.size v0 v1 v2 := heap_alloc_new w _
theorem Row3.below {B : Nat} {w w' : World} {b : Nat} {v0 v1 v2 : Value} (h : Row3 w b v0 v1 v2) (hB : Below B w w') (hb : b < B) : Row3 w' b v0 v1 v2 := by
  rw [Row3, hB.block b hb]; exact h
theorem Row3.lt {w : World} {b : Nat} {v0 v1 v2 : Value} (h : Row3 w b v0 v1 v2) : b < w.heap.size := by
  rcases Nat.lt_or_ge b w.heap.size with hl | hl
  · exact hl
  · simp [Row3, Array.getElem?_eq_none hl] at h
theorem Row3.cells {w : World} {b : Nat} {v0 v1 v2 : Value} (h : Row3 w b v0 v1 v2) :
    (w.cell? ⟨b, 0, none⟩ = some v0 ∧ w.cell? ⟨b, 1, none⟩ = some v1 ∧ w.cell? ⟨b, 2, none⟩ = some v2) ∧
    (w.frozen? ⟨b, 0, none⟩ = false ∧ w.frozen? ⟨b, 1, none⟩ = false ∧ w.frozen? ⟨b, 2, none⟩ = false) := by
  simp only [Row3] at h
  refine ⟨⟨?_, ?_, ?_⟩, ⟨?_, ?_, ?_⟩⟩ <;> simp [World.cell?, World.frozen?, h]
theorem Row3.put {w : World} {b : Nat} {v0 v1 v2 : Value} (h : Row3 w b v0 v1 v2) (u0 u1 u2 : Value) :
    Row3 (((w.setCell ⟨b, 0, none⟩ u0).setCell ⟨b, 1, none⟩ u1).setCell ⟨b, 2, none⟩ u2) b u0 u1 u2 := by
  have h0 := set1 (o := 0) (v := u0) (c' := #[u0, v1, v2]) h (by simp [Array.setIfInBounds])
  have h1 := set1 (o := 1) (v := u1) (c' := #[u0, u1, v2]) h0 (by simp [Array.setIfInBounds])
  exact set1 (o := 2) (v := u2) (c' := #[u0, u1, u2]) h1 (by simp [Array.setIfInBounds])
theorem Row3.far {w : World} {b c o : Nat} {v v0 v1 v2 : Value} (h : Row3 w b v0 v1 v2) (hc : c ≠ b) : Row3 (w.setCell ⟨c, o, none⟩ v) b v0 v1 v2 := by
  simp only [Row3] at *
  simp only [World.setCell, Array.getElem?_modify]
  rw [if_neg hc]; exact h
theorem set3_below {B : Nat} {w w' : World} {b : Nat} {u0 u1 u2 : Value} (h : Below B w w') (hb : B ≤ b) : Below B w (((w'.setCell ⟨b, 0, none⟩ u0).setCell ⟨b, 1, none⟩ u1).setCell ⟨b, 2, none⟩ u2) :=
  ((h.setCell (p := ⟨b, 0, none⟩) hb u0).setCell (p := ⟨b, 1, none⟩) hb u1).setCell (p := ⟨b, 2, none⟩) hb u2

/-- Two boxes for Decs, new. -/
def Two3 (w w' : World) (v0 v1 v2 u0 u1 u2 : Value) : Prop := Below w.heap.size w w' ∧ Row3 w' w.heap.size v0 v1 v2 ∧ Row3 w' (w.heap.size + 1) u0 u1 u2
theorem Two3.new (w : World) (v0 v1 v2 u0 u1 u2 : Value) : Two3 w ((w.alloc (.cells #[v0, v1, v2] 25)).alloc (.cells #[u0, u1, u2] 25)) v0 v1 v2 u0 u1 u2 :=
  ⟨below_on (alloc_b _ _) (alloc_b _ _), heap_alloc2_old _ _ _, heap_alloc2_new _ _ _⟩
theorem Two3.on {w w' w'' : World} {v0 v1 v2 u0 u1 u2 : Value} (h : Two3 w w' v0 v1 v2 u0 u1 u2) (k : Below w'.heap.size w' w'') : Two3 w w'' v0 v1 v2 u0 u1 u2 :=
  ⟨below_on h.1 k, h.2.1.below k h.2.1.lt, h.2.2.below k h.2.2.lt⟩
theorem Two3.putB {w w' : World} {v0 v1 v2 u0 u1 u2 : Value} (h : Two3 w w' v0 v1 v2 u0 u1 u2) (x0 x1 x2 : Value) : Two3 w (((w'.setCell ⟨w.heap.size + 1, 0, none⟩ x0).setCell ⟨w.heap.size + 1, 1, none⟩ x1).setCell ⟨w.heap.size + 1, 2, none⟩ x2) v0 v1 v2 x0 x1 x2 :=
  ⟨set3_below h.1 (Nat.le_succ _), ((h.2.1.far (by omega)).far (by omega)).far (by omega), h.2.2.put _ _ _⟩
theorem Two3.putA {w w' : World} {v0 v1 v2 u0 u1 u2 : Value} (h : Two3 w w' v0 v1 v2 u0 u1 u2) (x0 x1 x2 : Value) : Two3 w (((w'.setCell ⟨w.heap.size, 0, none⟩ x0).setCell ⟨w.heap.size, 1, none⟩ x1).setCell ⟨w.heap.size, 2, none⟩ x2) x0 x1 x2 u0 u1 u2 :=
  ⟨set3_below h.1 (Nat.le_refl _), h.2.1.put _ _ _, ((h.2.2.far (by omega)).far (by omega)).far (by omega)⟩

theorem str_zero : Str ⟨#[48]⟩ [48] := rfl

theorem dec_ret {v : Value} {d : Sc.D} {w w' : World} (h : DecIs v d) (b : Below w.heap.size w w') : ∃ v', Ending.returned v = .returned v' ∧ DecIs v' d ∧ Below w.heap.size w w' := ⟨v, rfl, h, b⟩

set_option maxRecDepth 100000 in
set_option maxHeartbeats 1000000 in
theorem dtrim_any (neg : Bool) (s : ByteArray) (xs : List Int) (e : Int) (w : World) (hs : Str s xs) (hn : xs.length ≤ 281474976710656) (e0 : -4611686018427387904 ≤ e) (e1 : e ≤ 4611686018427387904) :
    Calls Tryz.prog 61 #[decV neg s e] w fun r w' => ∃ v, r = .returned v ∧ DecIs v (Sc.nrm neg xs e) ∧ Below w.heap.size w w' := by
  have L := hid (fun wx => strim_any s xs wx hs (by omega))
  have HN := hid hn
  clear hs hn
  unfold decV
  go_enter Tryz.func61, Tryz.ntmps61
  go_wp2_with fail
  refine (L.out _).mono ?_
  rintro r w1 ⟨⟨s1, j, rfl, ⟨b1, b2, b3⟩, b4⟩, rfl⟩
  by_cases h : j = xs.length
  · have hs1 : s1 = ⟨#[]⟩ := b1.inj (by rw [List.drop_of_length_le (by omega)]; rfl)
    have F : Hid (Sc.nrm neg xs e = ⟨neg, [48], 0⟩) := Sc.nrm_of_none (fun i hi => b3 i (by omega))
    subst hs1
    clear b1 b2 b3 b4
    go_wp2_with fail
    (try simp only [Exit.inBlock, Exit.then])
    refine bodyPost_ret (results_cell_row rfl _ _ (w.heap.size + 1) 25 _ (0, 0) _ rfl (Two3.new w _ _ _ _ _ _).2.2 Tryz.underlying25 rfl (by kernel_rfl)) rfl ?_
    exact dec_ret (by rw [F.out]; exact ⟨_, rfl, str_zero⟩) (Two3.new w _ _ _ _ _ _).1
  · have hlt : j < xs.length := by omega
    have hne := b4 hlt
    have R := hid (fun wx => vrtrim0_any s1 (xs.drop j) wx b1 (by have := HN.out; simp; omega))
    have hsz : s1.size = xs.length - j := by have := b1.size; simpa using this
    have q1 : s1.toList ≠ [] := by
      intro c
      have : s1.size = 0 := by
        rw [ByteArray.toList_eq] at c
        have := congrArg List.length c
        rw [Array.length_toList] at this
        exact this
      omega
    have q2 : (s1.toList == []) = false := by rw [beq_eq_false_iff_ne]; exact q1
    have q3 : s1.toList.isEmpty = false := by rw [List.isEmpty_eq_false_iff]; exact q1
    have N2 : Hid (∀ k, k ≤ (xs.drop j).length → (∀ i, k ≤ i → i < (xs.drop j).length → (xs.drop j).getD i 0 = 48) → (0 < k → (xs.drop j).getD (k - 1) 0 ≠ 48) → Sc.nrm neg xs e = ⟨neg, (xs.drop j).take k, e + (xs.drop j).length - k⟩ ∧ 0 < k) := fun k x1 x2 x3 => Sc.nrm_of_trims hlt b3 hne x1 x2 x3
    have HL : Hid ((xs.drop j).length = xs.length - j) := by show _ = _; simp
    obtain ⟨m, hm⟩ : ∃ m, xs.length - j = m := ⟨_, rfl⟩
    rw [hm] at hsz HL
    have hmb : (m : Int) ≤ 281474976710656 := by have := HN.out; omega
    clear b1 b2 b3 b4 hlt hne hm h
    go_wp2_with fail
    refine (R.out _).mono ?_
    rintro r w2 ⟨⟨s2, k, rfl, c1, c2, c3, c4⟩, rfl⟩
    have NN := hid (N2.out k c2 c3 c4)
    have hk2 : s2.size = k := by have := c1.size; rw [List.length_take] at this; omega
    have hkm : (k : Int) ≤ (m : Int) := by have := HL.out; omega
    have HC := hid c1
    clear c1 c2 c3 c4 R N2 L
    go_wp2_with fail
    (try simp only [Exit.inBlock, Exit.then])
    refine bodyPost_ret (results_cell_row rfl _ _ (w.heap.size + 1) 25 _ (0, 0) _ rfl (Two3.new w _ _ _ _ _ _).2.2 Tryz.underlying25 rfl (by kernel_rfl)) rfl ?_
    exact dec_ret (by rw [NN.out.1, HL.out]; exact ⟨_, rfl, HC.out⟩) (Two3.new w _ _ _ _ _ _).1
end Go.Proofs.YtbmlkfkhmaahnaaGreatDoor

namespace Go.Proofs.YtbmlkfkhmaahnaaGreatDoor
open Go Go.RowKit Go.Deep

theorem Two3.one {w w' : World} {v0 v1 v2 u0 u1 u2 : Value} (h : Two3 w w' v0 v1 v2 u0 u1 u2) (x : Value) : Two3 w (w'.setCell ⟨w.heap.size, 1, none⟩ x) v0 x v2 u0 u1 u2 :=
  ⟨h.1.setCell (p := ⟨w.heap.size, 1, none⟩) (Nat.le_refl _) x, set1 h.2.1 (by simp [Array.setIfInBounds]), h.2.2.far (by omega)⟩

set_option maxRecDepth 100000 in
theorem own_any (neg : Bool) (s : ByteArray) (e : Int) (w : World) (hs : s.size ≤ 281474976710656) :
    Calls Tryz.prog 43 #[decV neg s e] w fun r w' => r = .returned (decV neg s e) ∧ Below w.heap.size w w' := by
  have C := hid (fun wx => vclone_any s wx hs)
  have Z := hid (Two3.new w (.bool neg) (.string s) (.int .i64 e) (.bool false) (.string ⟨#[]⟩) (.int .i64 0))
  unfold decV
  clear hs
  go_enter Tryz.func43, Tryz.ntmps43
  go_wp2_with fail
  refine (C.out _).mono ?_
  rintro r w1 ⟨rfl, hB⟩
  have S := hid (Z.out.on hB)
  obtain ⟨⟨c0, c1, c2⟩, f0, f1, f2⟩ := S.out.2.1.cells
  obtain ⟨⟨d0, d1, d2⟩, g0, g1, g2⟩ := S.out.2.2.cells
  clear hB Z C
  go_wp2_with fail
  (try simp only [Exit.inBlock, Exit.then])
  refine bodyPost_ret (results_cell_row rfl _ _ (w.heap.size + 1) 25 _ (0, 0) _ rfl ((S.out.one _).putB _ _ _).2.2 Tryz.underlying25 rfl (by kernel_rfl)) rfl ?_
  exact ⟨rfl, ((S.out.one _).putB _ _ _).1⟩

theorem nrm_ds_len (neg : Bool) (ds : List Int) (e : Int) (h : ds.length ≤ 281474976710655) : (Sc.nrm neg ds e).ds.length ≤ 281474976710656 := by
  have := Sc.nrm_len neg ds e
  omega
end Go.Proofs.YtbmlkfkhmaahnaaGreatDoor

namespace Go.Proofs.YtbmlkfkhmaahnaaGreatDoor
open Go Go.RowKit Go.Deep

theorem vret_bool {a b : Bool} (h : a = b) : Ending.returned (.bool a) = .returned (.bool b) := by rw [h]

theorem digit_any (x : Int) (w : World) (h0 : 0 ≤ x) (h1 : x < 256) : Calls Tryz.prog 59 #[.int .u8 x] w fun e w' => e = .returned (.bool (Sc.dg x)) ∧ w' = w := by
  go_enter Tryz.func59, Tryz.ntmps59
  go_wp2
  all_goals (go_ret; refine ⟨vret_bool ?_, rfl⟩)
  all_goals (rw [Bool.eq_iff_iff]; simp [Sc.dg]; omega)

theorem Str.pk {s : ByteArray} {xs : List Int} (h : Str s xs) (t : Nat) : ∀ ht : t < s.size, ((s[t]'ht).toNat : Int) = Sc.pk xs t := fun ht => h.at t ht
end Go.Proofs.YtbmlkfkhmaahnaaGreatDoor

namespace Go.Proofs.YtbmlkfkhmaahnaaGreatDoor
open Go Go.RowKit Go.Deep

/-- What slim, and Norm, tell of a Dec. -/
def nmd (neg : Bool) (ds : List Int) (e : Int) : Sc.D := if Sc.IsDec ds e then Sc.nrm neg ds e else ⟨false, [], 0⟩
theorem isdec_n {ds : List Int} {e : Int} {neg : Bool} (h1 : ds ≠ []) (h2 : -1152921504606846976 ≤ e) (h3 : e ≤ 1152921504606846976) (h4 : ∀ i, i < ds.length → Sc.dg (Sc.pk ds i) = true) : Sc.IsDec ds e ↔ (Sc.nrm neg ds e).e ≤ 1152921504606846976 := by
  have h4' : ∀ x ∈ ds, Sc.dg x = true := by
    intro x hx
    obtain ⟨i, hi, rfl⟩ := List.mem_iff_getElem.1 hx
    have := h4 i hi
    simpa [Sc.pk, List.getD, hi] using this
  by_cases c : Sc.lz ds = ds.length
  · rw [Sc.nrm_zero c]
    constructor
    · intro _; show (0 : Int) ≤ _; omega
    · intro _; exact ⟨h1, h2, h3, h4', fun h => absurd c h⟩
  · rw [Sc.nrm_pos c]
    constructor
    · intro h; exact h.2.2.2.2 c
    · intro h; exact ⟨h1, h2, h3, h4', fun _ => h⟩

theorem Str.ne {s : ByteArray} {xs : List Int} (h : Str s xs) (hx : xs ≠ []) : s.toList ≠ [] ∧ (s.toList == []) = false ∧ s.toList.isEmpty = false := by
  have e1 : s.toList ≠ [] := by
    intro c
    apply hx
    rw [ByteArray.toList_eq] at c
    rw [← h, c]
    rfl
  exact ⟨e1, by rw [beq_eq_false_iff_ne]; exact e1, by rw [List.isEmpty_eq_false_iff]; exact e1⟩

/-- What slim tells. -/
def SlimTold (neg : Bool) (ds : List Int) (e : Int) (w : World) (r : Ending) (w' : World) : Prop := ∃ v, r = .returned (.tuple #[v, .bool (decide (Sc.IsDec ds e))]) ∧ DecIs v (nmd neg ds e) ∧ Below w.heap.size w w'

theorem Two3.drew {w w' : World} {v0 v1 v2 u0 u1 u2 : Value} (h : Two3 w w' v0 v1 v2 u0 u1 u2) (n : Nat) : Two3 w (w'.drewN n) v0 v1 v2 u0 u1 u2 := ⟨below_drewN h.1 n, h.2.1, h.2.2⟩

set_option maxRecDepth 100000 in
set_option maxHeartbeats 2000000 in
theorem slim_any (neg : Bool) (s : ByteArray) (xs : List Int) (e : Int) (w : World) (hs : Str s xs) (hn : xs.length ≤ 281474976710656) :
    Calls Tryz.prog 42 #[decV neg s e] w fun r w' => SlimTold neg xs e w r w' := by
  have ZF : Hid (¬ Sc.IsDec xs e → ∀ w', Below w.heap.size w w' → SlimTold neg xs e w (.returned (.tuple #[.agg #[.bool false, .string ⟨#[]⟩, .int .i64 0], .bool false])) w') := fun z w' b => ⟨_, by rw [decide_eq_false z], by unfold nmd; rw [if_neg z]; exact ⟨_, rfl, str_nil0⟩, b⟩
  have hsz := hs.size
  by_cases h1 : xs = []
  · have Z2 := hid (ZF.out fun c => c.1 h1)
    have hs0 : s = ⟨#[]⟩ := hs.inj (by rw [h1]; rfl)
    subst hs0
    clear hs h1 ZF hn
    unfold decV
    go_enter Tryz.func42, Tryz.ntmps42
    go_wp2_with fail
    (try simp only [Exit.inBlock, Exit.then])
    refine bodyPost_ret (results_row_tmp rfl _ _ (w.heap.size + 1) 25 _ (0, 0) _ rfl (Two3.new w _ _ _ _ _ _).2.2 Tryz.underlying25 rfl (by kernel_rfl)) rfl ?_
    exact Z2.out _ (Two3.new w _ _ _ _ _ _).1
  · obtain ⟨q1, q2, q3⟩ := hs.ne h1
    by_cases h2 : -1152921504606846976 ≤ e ∧ e ≤ 1152921504606846976
    · obtain ⟨e0, e1⟩ := h2
      have T := hid (fun wx => dtrim_any neg s xs e wx hs hn (by omega) (by omega))
      have ID : Hid ((∀ i, i < xs.length → Sc.dg (Sc.pk xs i) = true) → (Sc.IsDec xs e ↔ (Sc.nrm neg xs e).e ≤ 1152921504606846976)) := isdec_n h1 e0 e1
      have IN : Hid (∀ j, j < xs.length → Sc.dg (Sc.pk xs j) = false → ¬ Sc.IsDec xs e) := fun j hj hd c => by
        have := c.2.2.2.1 (Sc.pk xs j) (by simp [Sc.pk, List.getD, hj])
        rw [hd] at this; exact absurd this (by simp)
      have DG := hid (fun (j : Nat) (wx : World) => digit_any (Sc.pk xs j) wx (hs.atb j).1 (hs.atb j).2)
      have HS := hid hs
      have HN := hid hn
      have NE := hid (Sc.nrm_e neg xs e)
      clear hs hn h1
      unfold decV
      go_enter Tryz.func42, Tryz.ntmps42
      go_wp2_with fail
      go_loop [22] (fun c => ∃ j : Nat, c = .int .i64 j ∧ Hid (j ≤ xs.length ∧ ∀ i, i < j → Sc.dg (Sc.pk xs i) = true)) (fun c => match c with | .int _ j => xs.length - j.toNat | _ => 0)
      case atStart => exact ⟨0, rfl, Nat.zero_le _, fun i hi => by omega⟩
      case round =>
        obtain ⟨j, rfl, I⟩ := hrel
        have hjb : (j : Int) ≤ 281474976710656 := by have := I.out.1; have := HN.out; omega
        by_cases hj : j < xs.length
        · have hji : (j : Int) < (xs.length : Int) := by omega
          have hx := HS.out.pk j
          have D := hid (fun wx => DG.out j wx)
          cases hd : Sc.dg (Sc.pk xs j) with
          | true =>
            rw [hd] at D
            have I2 : Hid (j + 1 ≤ xs.length ∧ ∀ i, i < j + 1 → Sc.dg (Sc.pk xs i) = true) := ⟨by omega, fun i hi => by
              by_cases c : i = j
              · subst c; exact hd
              · exact I.out.2 i (by omega)⟩
            clear hd I
            go_wp2_with fail
            refine (D.out _).mono ?_
            rintro r w1 ⟨rfl, rfl⟩
            go_wp2_with fail
            go_round
            case rel => exact ⟨j + 1, by go_num, I2.out⟩
            case measure => simp; omega
          | false =>
            rw [hd] at D
            have Z2 := hid (ZF.out (IN.out j hj hd))
            clear hd
            go_wp2_with fail
            refine (D.out _).mono ?_
            rintro r w1 ⟨rfl, rfl⟩
            go_wp2_with fail
            (try simp only [Exit.inBlock, Exit.then])
            refine bodyPost_ret (results_row_tmp rfl _ _ (w.heap.size + 1) 25 _ (0, 0) _ rfl (Two3.new w _ _ _ _ _ _).2.2 Tryz.underlying25 rfl (by kernel_rfl)) rfl ?_
            exact Z2.out _ (Two3.new w _ _ _ _ _ _).1
        · have hji : ¬ (j : Int) < (xs.length : Int) := by omega
          have ID2 := hid (ID.out fun i hi => I.out.2 i (by omega))
          have Z := hid (Two3.new w (.bool neg) (.string s) (.int .i64 e) (.bool false) (.string ⟨#[]⟩) (.int .i64 0))
          clear I
          go_wp2_with fail
          refine (T.out _).mono ?_
          rintro r w1 ⟨v, rfl, ⟨t, hv, ht⟩, hB⟩
          unfold decV at hv
          subst hv
          have S := hid ((Z.out.on hB).putA (.bool (Sc.nrm neg xs e).neg) (.string t) (.int .i64 (Sc.nrm neg xs e).e))
          obtain ⟨⟨c0, c1, c2⟩, f0, f1, f2⟩ := (Z.out.on hB).2.1.cells
          obtain ⟨⟨d0, d1, d2⟩, g0, g1, g2⟩ := (Z.out.on hB).2.2.cells
          have HT := hid ht
          clear hB ht Z T
          by_cases hb : (Sc.nrm neg xs e).e ≤ 1152921504606846976
          · have isd := ID2.out.2 hb
            have GG : Hid (∀ w', Below w.heap.size w w' → SlimTold neg xs e w (.returned (.tuple #[.agg #[.bool (Sc.nrm neg xs e).neg, .string t, .int .i64 (Sc.nrm neg xs e).e], .bool true])) w') := fun w' b => ⟨_, by rw [decide_eq_true isd], by unfold nmd; rw [if_pos isd]; exact ⟨t, rfl, HT.out⟩, b⟩
            clear isd ID ID2 IN NE
            generalize Sc.nrm neg xs e = N at *
            go_wp2_with fail
            (try simp only [Exit.inBlock, Exit.then])
            refine bodyPost_ret (results_row_tmp rfl _ _ (w.heap.size + 1) 25 _ (0, 0) _ rfl (S.out.putB _ _ _).2.2 Tryz.underlying25 rfl (by kernel_rfl)) rfl ?_
            exact GG.out _ (S.out.putB _ _ _).1
          · have Z2 := hid (ZF.out fun c => hb (ID2.out.1 c))
            have hb2 : 1152921504606846976 < (Sc.nrm neg xs e).e := by omega
            clear ID ID2 IN NE
            generalize Sc.nrm neg xs e = N at *
            go_wp2_with fail
            (try simp only [Exit.inBlock, Exit.then])
            refine bodyPost_ret (results_row_tmp rfl _ _ (w.heap.size + 1) 25 _ (0, 0) _ rfl (S.out.putB _ _ _).2.2 Tryz.underlying25 rfl (by kernel_rfl)) rfl ?_
            exact Z2.out _ (S.out.putB _ _ _).1
    · have Z2 := hid (ZF.out fun c => h2 ⟨c.2.1, c.2.2.1⟩)
      rcases (show e < -1152921504606846976 ∨ (-1152921504606846976 ≤ e ∧ 1152921504606846976 < e) by omega) with he | ⟨he0, he⟩
      all_goals
        clear hs hn h1 ZF h2
        unfold decV
        go_enter Tryz.func42, Tryz.ntmps42
        go_wp2_with fail
        (try simp only [Exit.inBlock, Exit.then])
        refine bodyPost_ret (results_row_tmp rfl _ _ (w.heap.size + 1) 25 _ (0, 0) _ rfl (Two3.new w _ _ _ _ _ _).2.2 Tryz.underlying25 rfl (by kernel_rfl)) rfl ?_
        exact Z2.out _ (Two3.new w _ _ _ _ _ _).1
end Go.Proofs.YtbmlkfkhmaahnaaGreatDoor

namespace Go.Proofs.YtbmlkfkhmaahnaaGreatDoor
open Go Go.RowKit Go.Deep

def errOf (ds : List Int) (e : Int) : Int := if Sc.IsDec ds e then 0 else 80

def NormTold (neg : Bool) (xs : List Int) (e : Int) (w : World) (r : Ending) (w' : World) : Prop := ∃ v, r = .returned (.tuple #[v, .int .i64 (errOf xs e)]) ∧ DecIs v (nmd neg xs e) ∧ Below w.heap.size w w'

set_option maxRecDepth 100000 in
set_option maxHeartbeats 2000000 in
theorem norm_any (neg : Bool) (s : ByteArray) (xs : List Int) (e : Int) (w : World) (hs : Str s xs) (hn : xs.length ≤ 281474976710655) :
    Calls Tryz.prog 26 #[decV neg s e] w fun r w' => NormTold neg xs e w r w' := by
  have T := hid (fun wx => slim_any neg s xs e wx hs (by omega))
  have Z := hid (Two3.new w (.bool neg) (.string s) (.int .i64 e) (.bool false) (.string ⟨#[]⟩) (.int .i64 0))
  have LN : Hid ((nmd neg xs e).ds.length ≤ 281474976710656) := by
    show _ ≤ _
    unfold nmd
    split
    · exact nrm_ds_len _ _ _ (by omega)
    · simp
  clear hs hn
  unfold decV at T ⊢
  go_enter Tryz.func26, Tryz.ntmps26
  go_wp2_with fail
  refine (T.out _).mono ?_
  rintro r w1 ⟨v, rfl, ⟨t, hv, ht⟩, hB⟩
  unfold decV at hv
  subst hv
  have S := hid ((Z.out.on hB).putA (.bool (nmd neg xs e).neg) (.string t) (.int .i64 (nmd neg xs e).e))
  obtain ⟨⟨c0, c1, c2⟩, f0, f1, f2⟩ := (Z.out.on hB).2.1.cells
  have HT := hid ht
  have O := hid (fun wx => own_any (nmd neg xs e).neg t (nmd neg xs e).e wx (by rw [ht.size]; exact LN.out))
  unfold decV at O
  obtain ⟨d, hd⟩ : ∃ d, decide (Sc.IsDec xs e) = d := ⟨_, rfl⟩
  rw [hd]
  cases d with
  | true =>
    have E : Hid (errOf xs e = 0) := by show _ = _; unfold errOf; rw [if_pos (of_decide_eq_true hd)]
    have GG : Hid (∀ w', Below w.heap.size w w' → NormTold neg xs e w (.returned (.tuple #[.agg #[.bool (nmd neg xs e).neg, .string t, .int .i64 (nmd neg xs e).e], .int .i64 0])) w') := fun w' b => ⟨_, by rw [E.out]; rfl, ⟨t, rfl, HT.out⟩, b⟩
    obtain ⟨⟨d0, d1, d2⟩, g0, g1, g2⟩ := (Z.out.on hB).2.2.cells
    clear hB ht Z T hd E
    generalize nmd neg xs e = N at *
    go_wp2_with fail
    refine (O.out _).mono ?_
    rintro r w2 ⟨rfl, hB⟩
    have S2 := hid (S.out.on hB)
    clear c0 c1 c2 f0 f1 f2 d0 d1 d2 g0 g1 g2 hB
    obtain ⟨⟨d0, d1, d2⟩, g0, g1, g2⟩ := S2.out.2.2.cells
    go_wp2_with fail
    (try simp only [Exit.inBlock, Exit.then])
    refine bodyPost_ret (results_row_tmp rfl _ _ (w.heap.size + 1) 25 _ (0, 0) _ rfl (S2.out.putB _ _ _).2.2 Tryz.underlying25 rfl (by kernel_rfl)) rfl ?_
    exact GG.out _ (S2.out.putB _ _ _).1
  | false =>
    have hnd := of_decide_eq_false hd
    have E : Hid (errOf xs e = 80) := by show _ = _; unfold errOf; rw [if_neg hnd]
    have EN : Hid (nmd neg xs e = ⟨false, [], 0⟩) := by show _ = _; unfold nmd; rw [if_neg hnd]
    have GG : Hid (∀ w', Below w.heap.size w w' → NormTold neg xs e w (.returned (.tuple #[.agg #[.bool false, .string ⟨#[]⟩, .int .i64 0], .int .i64 80])) w') := fun w' b => ⟨_, by rw [E.out], by rw [EN.out]; exact ⟨_, rfl, str_nil0⟩, b⟩
    obtain ⟨⟨d0, d1, d2⟩, g0, g1, g2⟩ := (Z.out.on hB).2.2.cells
    clear hB ht Z T hd hnd O
    rw [EN.out] at S ⊢
    go_wp2_with fail
    (try simp only [Exit.inBlock, Exit.then])
    refine bodyPost_ret (results_row_tmp rfl _ _ (w.heap.size + 1) 25 _ (0, 0) _ rfl (S.out.putB _ _ _).2.2 Tryz.underlying25 rfl (by kernel_rfl)) rfl ?_
    exact GG.out _ (S.out.putB _ _ _).1
end Go.Proofs.YtbmlkfkhmaahnaaGreatDoor
