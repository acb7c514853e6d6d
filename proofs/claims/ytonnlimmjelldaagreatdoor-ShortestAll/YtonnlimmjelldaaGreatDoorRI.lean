/-
  Texts put together: VBackN, VText, VRNorm, VRCmp, VRCmp2, TnO, LBnd, TnQ, TnR, LWiX, LEqD, LAwake, TnP0, OpenDec, OpenOps12.
-/
import Derived.Test.YtonnlimmjelldaaGreatDoorVOrd
import Derived.Test.YtonnlimmjelldaaGreatDoorRG
import Derived.Test.YtonnlimmjelldaaGreatDoorRH
import Derived.Deep.LoopGhost
import Derived.BigRegion
import Derived.RegionTactic
import Derived.Deep.RegionHeld3
import Derived.Test.YtonnlimmjelldaaGreatDoorFRow3
import Derived.Test.YtonnlimmjelldaaGreatDoorRE
import Derived.SizedLaws
import Derived.ProofKit
namespace Go.Proofs.YtonnlimmjelldaaGreatDoor
namespace Sc

theorem itl_is (n : Int) : itl n = (if n < 0 then [45] else []) ++ dl n.natAbs := by
  unfold itl Lib.itoa dl
  by_cases h : n < 0
  · rw [if_pos h, if_pos h]; rfl
  · rw [if_neg h, if_neg h]; rw [show n.toNat = n.natAbs by omega]; rfl

/-- A Dec's written form. -/
def txt (d : D) : List Int := (if d.neg = true then [45] else []) ++ d.ds ++ (if d.e ≠ 0 then 101 :: itl d.e else [])

/-- sign, digits, and an e-part. -/
theorem txt_lit {d : D} (hd : Dig d.ds) (h0 : -1000000000000000 ≤ d.e) (h1 : d.e ≤ 1000000000000000) :
    run bl (txt d) 0 = 0 ∧ some? (txt d) 0 ∧ lit (txt d) 0 = ⟨d.neg, d.ds, [], d.e, (txt d).length⟩ := by
  obtain ⟨sn, hsn⟩ : ∃ sn : List Int, sn = (if d.neg = true then [45] else []) := ⟨_, rfl⟩
  obtain ⟨ep, hep⟩ : ∃ ep : List Int, ep = (if d.e ≠ 0 then 101 :: itl d.e else []) := ⟨_, rfl⟩
  have ht : txt d = sn ++ d.ds ++ ep := by rw [hsn, hep]; rfl
  have hl : sn.length = if d.neg = true then 1 else 0 := by rw [hsn]; split <;> rfl
  have d0 := hd.pk0
  have d0' := dg_iff.1 d0
  have dpos : 0 < d.ds.length := by
    rcases Nat.eq_zero_or_pos d.ds.length with c | c
    · exact absurd (List.length_eq_zero_iff.1 c) hd.1
    · exact c
  -- the first byte
  have f0 : pk (txt d) 0 = if d.neg = true then 45 else pk d.ds 0 := by
    rw [ht, pk_append, if_pos (by simp; omega), pk_append]
    cases c : d.neg with
    | true => rw [hsn, c]; rfl
    | false => rw [hsn, c]; rfl
  have g1 : run bl (txt d) 0 = 0 := by
    apply run_zero bl0
    rw [f0, bl_not]
    cases c : d.neg <;> simp <;> omega
  have e0 : p1 (txt d) 0 = sn.length := by
    unfold p1 sg
    rw [f0, hl]
    cases c : d.neg with
    | true => simp
    | false => simp only [Bool.false_eq_true, if_false]; rw [if_neg (by omega)]
  have epk : dg (pk ep 0) = false ∧ pk ep 0 ≠ 46 := by
    rw [hep]; split
    · exact ⟨rfl, by show (101 : Int) ≠ 46; omega⟩
    · exact ⟨rfl, by show (0 : Int) ≠ 46; omega⟩
  have e1 : run dg (txt d) sn.length = d.ds.length := by rw [ht]; exact run_app dg0 hd.2 epk.1
  have e2 : p2 (txt d) 0 = sn.length + d.ds.length := by unfold p2; rw [e0, e1]
  have at2 : ∀ i, pk (txt d) (sn.length + d.ds.length + i) = pk ep i := fun i => by
    rw [ht, pk_append, if_neg (by simp), show sn.length + d.ds.length + i - (sn ++ d.ds).length = i by simp]
  have a2 : pk (txt d) (p2 (txt d) 0) ≠ 46 := by rw [e2]; have := at2 0; rw [Nat.add_zero] at this; rw [this]; exact epk.2
  have e3 : bn (txt d) 0 = 0 := by unfold bn; rw [if_neg a2]
  have e4 : p3 (txt d) 0 = sn.length + d.ds.length := by unfold p3; rw [if_neg a2, e2]
  have lt : (txt d).length = sn.length + d.ds.length + ep.length := by rw [ht]; simp; omega
  refine ⟨g1, by unfold some?; rw [e0, e1]; omega, ?_⟩
  have ah : ((txt d).drop (p1 (txt d) 0)).take (run dg (txt d) (p1 (txt d) 0)) = d.ds := by rw [e0, e1, ht]; exact take_app
  have ng : decide (pk (txt d) 0 = 45) = d.neg := by
    rw [f0]
    cases c : d.neg with
    | true => simp
    | false => simp; omega
  by_cases c : d.e = 0
  · have ep0 : ep = [] := by rw [hep, if_neg (by omega)]
    have hE : hasE (txt d) (p3 (txt d) 0) = false := by
      unfold hasE
      rw [e4]
      have := at2 0
      rw [Nat.add_zero] at this
      rw [this, ep0]; rfl
    unfold lit
    rw [ah, ng, e3, hE, e4, lt, ep0, c]
    simp
  · have ep1 : ep = 101 :: itl d.e := by rw [hep, if_pos c]
    obtain ⟨sg2, hsg2⟩ : ∃ s2 : List Int, s2 = (if d.e < 0 then [45] else []) := ⟨_, rfl⟩
    have ep2 : ep = 101 :: (sg2 ++ dl d.e.natAbs) := by rw [ep1, itl_is, hsg2]
    obtain ⟨k1, k2, k3⟩ := dl_is d.e.natAbs
    have k0 := Dig.pk0 ⟨k2, k1⟩
    have k0' := dg_iff.1 k0
    have hl2 : sg2.length = if d.e < 0 then 1 else 0 := by rw [hsg2]; split <;> rfl
    have t0 : pk (txt d) (p3 (txt d) 0) = 101 := by
      rw [e4]; have := at2 0; rw [Nat.add_zero] at this; rw [this, ep2]; rfl
    have t1 : pk (txt d) (p3 (txt d) 0 + 1) = if d.e < 0 then 45 else pk (dl d.e.natAbs) 0 := by
      rw [e4, at2 1, ep2]
      show pk (sg2 ++ dl d.e.natAbs) 0 = _
      rw [pk_append, hsg2]
      split <;> simp_all [pk]
    have e5 : p4 (txt d) (p3 (txt d) 0) = sn.length + d.ds.length + 1 + sg2.length := by
      unfold p4 sg
      rw [t1, e4, hl2]
      by_cases h : d.e < 0
      · simp [h]
      · simp only [h, if_false]; rw [if_neg (by omega)]
    have spl : txt d = (sn ++ d.ds ++ 101 :: sg2) ++ dl d.e.natAbs ++ [] := by rw [ht, ep2]; simp
    have spn : (sn ++ d.ds ++ 101 :: sg2).length = sn.length + d.ds.length + 1 + sg2.length := by simp; omega
    have e6 : run dg (txt d) (p4 (txt d) (p3 (txt d) 0)) = (dl d.e.natAbs).length := by
      rw [e5, ← spn, spl]
      exact run_app dg0 k1 rfl
    have t2 : ((txt d).drop (p4 (txt d) (p3 (txt d) 0))).take (run dg (txt d) (p4 (txt d) (p3 (txt d) 0))) = dl d.e.natAbs := by
      rw [e6, e5, ← spn]
      conv => lhs; rw [spl]
      exact take_app
    have hE : hasE (txt d) (p3 (txt d) 0) = true := by
      unfold hasE
      rw [t0, e5, ← spn]
      have : pk (txt d) (sn ++ d.ds ++ 101 :: sg2).length = pk (dl d.e.natAbs) 0 := by
        rw [spl, List.append_nil, pk_append, if_neg (by omega), Nat.sub_self]
      rw [this, k0]; rfl
    have len : p4 (txt d) (p3 (txt d) 0) + (dl d.e.natAbs).length = (txt d).length := by
      rw [e5, ← spn]; conv => rhs; rw [spl]
      simp; omega
    have sc : (if pk (txt d) (p3 (txt d) 0 + 1) = 45 then - cap (dl d.e.natAbs) else cap (dl d.e.natAbs)) = d.e := by
      rw [t1, k3]
      by_cases h : d.e < 0
      · simp only [h, if_true]; omega
      · simp only [h, if_false]; rw [if_neg (by omega)]; omega
    unfold lit
    rw [ah, ng, e3, hE, t2, e6]
    simp only [if_true, List.take_zero]
    rw [sc, len]

/-- The normal form of a normal form is itself. -/
theorem nrm_again {neg : Bool} {ds : List Int} {e : Int} : nrm neg (nrm neg ds e).ds (nrm neg ds e).e = nrm neg ds e := by
  by_cases h : lz ds = ds.length
  · rw [nrm_zero h]
    apply nrm_of_none
    intro i hi
    simp at hi; subst hi; rfl
  · have h2 := lz_tz h
    obtain ⟨L, hL⟩ : ∃ L, L = (ds.drop (lz ds)).take (ds.length - tz ds - lz ds) := ⟨_, rfl⟩
    have ll : L.length = ds.length - tz ds - lz ds := by rw [hL]; simp; omega
    have at0 : pk L 0 = pk ds (lz ds) := by rw [hL, pk_take, if_pos (by omega), pk_drop]; rfl
    have atl : pk L (L.length - 1) = pk ds (ds.length - tz ds - 1) := by rw [hL, pk_take, if_pos (by rw [← hL]; omega), pk_drop]; congr 1; rw [← hL]; omega
    rw [nrm_pos h, ← hL]
    have l0 : lz L = 0 := lz_is (fun i hi => by omega) (by rw [at0]; exact lz_end ds)
    have t0 : tz L = 0 := by
      have := tz_is (ds := L) (k := L.length) (Nat.le_refl _) (fun i a b => by omega) (fun _ => by rw [atl]; exact tz_end (by omega))
      omega
    rw [nrm_pos (show lz L ≠ L.length by omega), l0, t0]
    simp
theorem nrm_ends {neg : Bool} {ds : List Int} {e : Int} (h : (nrm neg ds e).ds ≠ [48]) : pk (nrm neg ds e).ds 0 ≠ 48 ∧ pk (nrm neg ds e).ds ((nrm neg ds e).ds.length - 1) ≠ 48 ∧ 0 < (nrm neg ds e).ds.length := by
  have hc : lz ds ≠ ds.length := fun c => h (nrm_ds_one.2 c)
  have h2 := lz_tz hc
  rw [nrm_pos hc]
  simp only
  obtain ⟨L, hL⟩ : ∃ L, L = (ds.drop (lz ds)).take (ds.length - tz ds - lz ds) := ⟨_, rfl⟩
  rw [← hL]
  have ll : L.length = ds.length - tz ds - lz ds := by rw [hL]; simp; omega
  have at0 : pk L 0 = pk ds (lz ds) := by rw [hL, pk_take, if_pos (by omega), pk_drop]; rfl
  have atl : pk L (L.length - 1) = pk ds (ds.length - tz ds - 1) := by rw [hL, pk_take, if_pos (by rw [← hL]; omega), pk_drop]; congr 1; rw [← hL]; omega
  refine ⟨by rw [at0]; exact lz_end ds, by rw [atl]; exact tz_end (by omega), by omega⟩
theorem nrm_dig {neg : Bool} {ds : List Int} {e : Int} (h : IsDec ds e) : Dig (nrm neg ds e).ds := by
  by_cases c : lz ds = ds.length
  · rw [nrm_zero c]
    exact ⟨by simp, fun x hx => by simp at hx; subst hx; rfl⟩
  · have h2 := lz_tz c
    rw [nrm_pos c]
    refine ⟨fun k => ?_, fun x hx => h.2.2.2.1 x (List.mem_of_mem_drop (List.mem_of_mem_take hx))⟩
    have := congrArg List.length k
    simp at this; omega
theorem nrm_isdec {neg : Bool} {ds : List Int} {e : Int} (h : IsDec ds e) : IsDec (nrm neg ds e).ds (nrm neg ds e).e := by
  have hd := nrm_dig (neg := neg) h
  refine ⟨hd.1, ?_, ?_, hd.2, fun _ => ?_⟩
  · rcases nrm_e neg ds e with k | k
    · omega
    · have := h.2.1; omega
  · by_cases c : lz ds = ds.length
    · rw [nrm_zero c]; show (0 : Int) ≤ _; omega
    · rw [nrm_pos c]; exact h.2.2.2.2 c
  · have ag := nrm_again (neg := neg) (ds := ds) (e := e)
    next hc =>
    rw [nrm_pos hc] at ag
    have e2 : (nrm neg ds e).e + (tz (nrm neg ds e).ds : Int) = (nrm neg ds e).e := by
      have := congrArg D.e ag
      exact this
    rw [e2]
    by_cases c : lz ds = ds.length
    · rw [nrm_zero c]; show (0 : Int) ≤ _; omega
    · rw [nrm_pos c]; exact h.2.2.2.2 c
end Sc
end Go.Proofs.YtonnlimmjelldaaGreatDoor

namespace Go.Proofs.YtonnlimmjelldaaGreatDoor
open Go Go.RowKit Go.Deep

theorem Tab10.below {w w' : World} (h : Tab10 w) (k : Below w.heap.size w w') : Tab10 w' := by
  unfold Tab10 Lib.TabIs World.var? at *
  cases hg : Tryz.prog.globalNamed "internal/strconv.uint64pow10" with
  | none => rw [hg] at h; simp at h
  | some g =>
    rw [hg] at h
    simp only [Option.bind_some] at h ⊢
    have hl : g < w.heap.size := by
      rcases Nat.lt_or_ge g w.heap.size with c | c
      · exact c
      · rw [Array.getElem?_eq_none c] at h; simp at h
    rw [k.block g hl]; exact h

/-- What Text tells. -/
def TextTold (neg : Bool) (xs : List Int) (e : Int) (w : World) (r : Ending) (w' : World) : Prop :=
  ((Sc.IsDec xs e ∧ ∃ t, r = .returned (.tuple #[.string t, .int .i64 0]) ∧ Str t (Sc.txt (Sc.nrm neg xs e))) ∨ (¬ Sc.IsDec xs e ∧ r = .returned (.tuple #[.string ⟨#[]⟩, .int .i64 80]))) ∧ Below w.heap.size w w'

theorem LS1.put {w wx : World} {v0 v1 v2 : Value} (h : LS1 w wx v0 v1 v2) (x0 x1 x2 : Value) : LS1 w (((wx.setCell ⟨w.heap.size, 0, none⟩ x0).setCell ⟨w.heap.size, 1, none⟩ x1).setCell ⟨w.heap.size, 2, none⟩ x2) x0 x1 x2 := ⟨set3_below h.1 (Nat.le_refl _), h.2.put _ _ _⟩

end Go.Proofs.YtonnlimmjelldaaGreatDoor

namespace Go.Proofs.YtonnlimmjelldaaGreatDoor
open Go Go.RowKit Go.Deep

set_option maxRecDepth 100000 in
set_option maxHeartbeats 2000000 in
theorem rnorm_any (neg : Bool) (s : ByteArray) (xs : List Int) (e : Int) (w : World) (hs : Str s xs) (hn : xs.length ≤ 281474976710655) :
    Calls Tryz.prog 35 #[decV neg s e] w fun r w' => NormTold neg xs e w r w' := by
  have T := hid (fun wx => risdec_any neg s xs e wx hs (by omega))
  have Z := hid (Two3.new w (.bool neg) (.string s) (.int .i64 e) (.bool false) (.string ⟨#[]⟩) (.int .i64 0))
  by_cases hd : Sc.IsDec xs e
  · have M := hid (fun wx => normal_any neg s xs e wx hs (by omega) (by have := hd.2.1; omega) (by have := hd.2.2.1; omega))
    have GG : Hid (∀ t w', Str t (Sc.nrm neg xs e).ds → Below w.heap.size w w' → NormTold neg xs e w (.returned (.tuple #[.agg #[.bool (Sc.nrm neg xs e).neg, .string t, .int .i64 (Sc.nrm neg xs e).e], .int .i64 0])) w') := fun t w' ht b => ⟨_, by unfold errOf; rw [if_pos hd], by unfold nmd; rw [if_pos hd]; exact ⟨t, rfl, ht⟩, b⟩
    rw [decide_eq_true hd] at T
    clear hd hs hn
    unfold decV at T ⊢
    go_enter Tryz.func35, Tryz.ntmps35
    go_wp2_with fail
    refine (T.out _).mono ?_
    rintro r w1 ⟨rfl, hB⟩
    have S1 := hid (Z.out.on hB)
    obtain ⟨⟨c0, c1, c2⟩, -⟩ := S1.out.2.1.cells
    clear hB Z T
    go_wp2_with fail
    refine (M.out _).mono ?_
    rintro r w2 ⟨v, rfl, ⟨t, hv, ht⟩, hB⟩
    unfold decV at hv
    subst hv
    have S2 := hid (S1.out.on hB)
    obtain ⟨⟨d0, d1, d2⟩, g0, g1, g2⟩ := S2.out.2.2.cells
    have HT := hid ht
    clear hB S1 M c0 c1 c2 ht
    generalize Sc.nrm neg xs e = N at *
    go_wp2_with fail
    (try simp only [Exit.inBlock, Exit.then])
    refine bodyPost_ret (results_row_tmp rfl _ _ (w.heap.size + 1) 28 _ (0, 0) _ rfl (S2.out.putB _ _ _).2.2 Tryz.underlying28 rfl (by kernel_rfl)) rfl ?_
    exact GG.out _ _ HT.out (S2.out.putB _ _ _).1
  · have GG : Hid (∀ w', Below w.heap.size w w' → NormTold neg xs e w (.returned (.tuple #[.agg #[.bool false, .string ⟨#[]⟩, .int .i64 0], .int .i64 80])) w') := fun w' b => ⟨_, by unfold errOf; rw [if_neg hd], by unfold nmd; rw [if_neg hd]; exact ⟨_, rfl, str_nil0⟩, b⟩
    rw [decide_eq_false hd] at T
    clear hd hs hn
    unfold decV at T ⊢
    go_enter Tryz.func35, Tryz.ntmps35
    go_wp2_with fail
    refine (T.out _).mono ?_
    rintro r w1 ⟨rfl, hB⟩
    have S1 := hid (Z.out.on hB)
    obtain ⟨⟨d0, d1, d2⟩, g0, g1, g2⟩ := S1.out.2.2.cells
    clear hB Z T
    go_wp2_with fail
    (try simp only [Exit.inBlock, Exit.then])
    refine bodyPost_ret (results_row_tmp rfl _ _ (w.heap.size + 1) 28 _ (0, 0) _ rfl (S1.out.putB _ _ _).2.2 Tryz.underlying28 rfl (by kernel_rfl)) rfl ?_
    exact GG.out _ (S1.out.putB _ _ _).1
end Go.Proofs.YtonnlimmjelldaaGreatDoor

namespace Go.Proofs.YtonnlimmjelldaaGreatDoor
namespace Sc
def gd (l : List Int) (i : Nat) : Int := l.getD i 48
theorem gd_lt {l : List Int} {i : Nat} (h : i < l.length) : gd l i = pk l i := by simp [gd, pk, List.getD, h]
theorem gd_ge {l : List Int} {i : Nat} (h : l.length ≤ i) : gd l i = 48 := by simp [gd, List.getD, List.getElem?_eq_none h]
theorem lex_at : ∀ (i : Nat) (a b : List Int), (∀ x ∈ a, 48 ≤ x) → (∀ x ∈ b, 48 ≤ x) → (∀ t, t < i → gd a t = gd b t) → gd a i < gd b i → lex a b = -1 := by
  intro i
  induction i with
  | zero =>
    intro a b ha hb _ h
    cases a with
    | nil =>
      cases b with
      | nil => simp [gd] at h
      | cons y b => rfl
    | cons x a =>
      cases b with
      | nil => simp [gd] at h; have := ha x (by simp); omega
      | cons y b => simp [gd] at h; simp [lex, h]
  | succ i ih =>
    intro a b ha hb he h
    cases a with
    | nil =>
      cases b with
      | nil => simp [gd] at h
      | cons y b => rfl
    | cons x a =>
      cases b with
      | nil =>
        exfalso
        have h1 : gd (x :: a) (i + 1) = gd a i := by simp [gd]
        have h2 : gd ([] : List Int) (i + 1) = 48 := by simp [gd]
        rw [h1, h2] at h
        rcases Nat.lt_or_ge i a.length with c | c
        · have := ha (a[i]) (by simp)
          rw [gd_lt c] at h
          have e : pk a i = a[i] := by simp [pk, List.getD, c]
          omega
        · rw [gd_ge c] at h; omega
      | cons y b =>
        have h0 := he 0 (by omega)
        simp [gd] at h0
        subst h0
        have := ih a b (fun z hz => ha z (by simp [hz])) (fun z hz => hb z (by simp [hz])) (fun t ht => by have := he (t + 1) (by omega); simpa [gd] using this) (by simpa [gd] using h)
        simp [lex, this]
theorem eq_of_gd {a b : List Int} (ha : a ≠ [] → pk a (a.length - 1) ≠ 48) (hb : b ≠ [] → pk b (b.length - 1) ≠ 48) (h : ∀ t, gd a t = gd b t) : a = b := by
  have len : a.length = b.length := by
    rcases Nat.lt_trichotomy a.length b.length with c | c | c
    · exfalso
      have hb' := hb (fun k => by rw [k] at c; simp at c)
      have := h (b.length - 1)
      rw [gd_ge (by omega), gd_lt (by omega)] at this
      exact hb' this.symm
    · exact c
    · exfalso
      have ha' := ha (fun k => by rw [k] at c; simp at c)
      have := h (a.length - 1)
      rw [gd_ge (l := b) (by omega), gd_lt (by omega)] at this
      exact ha' this
  apply List.ext_getElem len
  intro i h1 h2
  have := h i
  rw [gd_lt h1, gd_lt h2] at this
  simpa [pk, List.getD, h1, h2] using this
/-- What size answers. -/
def sz (a b : D) : Int := if a.ds = [48] ∨ b.ds = [48] then (if a.ds = b.ds then 0 else if a.ds = [48] then -1 else 1) else mc a b
end Sc
open Go Go.RowKit Go.Deep

theorem vret_int {k : IntKind} {a b : Int} (h : a = b) : Ending.returned (.int k a) = .returned (.int k b) := by rw [h]

theorem rdigit_any (d : Sc.D) (s : ByteArray) (i : Nat) (p : Int) (w : World) (hs : Str s d.ds) (hp : p = d.e + d.ds.length - 1 - i) (e0 : -1152921504606846976 ≤ d.e) (e1 : d.e ≤ 1152921504606846976) (hn : d.ds.length ≤ 281474976710657) (hi : i ≤ 281474976710657) :
    Calls Tryz.prog 98 #[.agg #[.bool d.neg, .string s, .int .i64 d.e], .int .i64 p] w fun r w' => r = .returned (.int .u8 (Sc.gd d.ds i)) ∧ Below w.heap.size w w' := by
  have B := hid (alloc_b w (.cells #[.bool d.neg, .string s, .int .i64 d.e] 28))
  have hsz := hs.size
  have hx := hs.pk i
  have hpi : d.e + (d.ds.length : Int) - 1 - p = (i : Int) := by omega
  have hpb : -1152921504606846976 - 281474976710660 ≤ p ∧ p ≤ 1152921504606846976 + 281474976710660 := by omega
  have hnb : (d.ds.length : Int) ≤ 281474976710657 := by omega
  by_cases h : i < d.ds.length
  · have h1 : (i : Int) < (d.ds.length : Int) := by omega
    have E := hid (Sc.gd_lt h)
    clear hs hp h hi
    go_enter Tryz.func98, Tryz.ntmps98
    go_wp2_with fail
    go_ret
    exact ⟨vret_int E.out.symm, B.out⟩
  · have h1 : ¬ (i : Int) < (d.ds.length : Int) := by omega
    have E : Hid (Sc.gd d.ds i = 48) := Sc.gd_ge (by omega)
    clear hs hp h hi
    go_enter Tryz.func98, Tryz.ntmps98
    go_wp2_with fail
    go_ret
    exact ⟨vret_int E.out.symm, B.out⟩

/-- A normal Dec as size wants it. -/
structure Nd (d : Sc.D) : Prop where
  e0 : -1152921504606846976 ≤ d.e
  e1 : d.e ≤ 1152921504606846976
  len : d.ds.length ≤ 281474976710657
  dig : ∀ x ∈ d.ds, 48 ≤ x ∧ x ≤ 57
  last : d.ds ≠ [48] → Sc.pk d.ds (d.ds.length - 1) ≠ 48

set_option maxRecDepth 100000 in
set_option maxHeartbeats 4000000 in
theorem size_any (a b : Sc.D) (s t : ByteArray) (w : World) (hs : Str s a.ds) (ht : Str t b.ds) (ha : Nd a) (hb : Nd b) :
    Calls Tryz.prog 70 #[.agg #[.bool a.neg, .string s, .int .i64 a.e], .agg #[.bool b.neg, .string t, .int .i64 b.e]] w fun r w' => r = .returned (.int .i64 (Sc.sz a b)) ∧ Below w.heap.size w w' := by
  have Z : Hid (C2 w ((w.alloc (.cells #[.bool a.neg, .string s, .int .i64 a.e] 28)).alloc (.cells #[.bool b.neg, .string t, .int .i64 b.e] 28)) a b s t) := Two3.new w _ _ _ _ _ _
  have sx : s.toList = [48] ↔ a.ds = [48] := by
    have := hs.eq (t := ⟨#[48]⟩) (ys := [48]) rfl
    rw [str48] at this
    by_cases c : a.ds = [48]
    · rw [decide_eq_true c] at this; simpa [c] using this
    · rw [decide_eq_false c] at this; simpa [c] using this
  have sy : t.toList = [48] ↔ b.ds = [48] := by
    have := ht.eq (t := ⟨#[48]⟩) (ys := [48]) rfl
    rw [str48] at this
    by_cases c : b.ds = [48]
    · rw [decide_eq_true c] at this; simpa [c] using this
    · rw [decide_eq_false c] at this; simpa [c] using this
  by_cases ka : a.ds = [48]
  · have hs0 : s = ⟨#[48]⟩ := hs.inj (by rw [ka]; rfl)
    subst hs0
    by_cases kb : b.ds = [48]
    · have ht0 : t = ⟨#[48]⟩ := ht.inj (by rw [kb]; rfl)
      subst ht0
      have E : Hid (Sc.sz a b = 0) := by show _ = _; unfold Sc.sz; rw [if_pos (.inl ka), if_pos (by rw [ka, kb])]
      clear hs ht ha hb sx sy ka kb
      go_enter Tryz.func70, Tryz.ntmps70
      go_wp2_with fail
      go_ret
      exact ⟨vret_int E.out.symm, Z.out.1⟩
    · have q1 : t.toList ≠ [48] := fun c => kb (sy.1 c)
      have q2 : (t.toList == [48]) = false := by rw [beq_eq_false_iff_ne]; exact q1
      have q3 : ¬ [48] = t.toList := fun c => q1 c.symm
      have q4 : ([48] == t.toList) = false := by rw [beq_eq_false_iff_ne]; exact q3
      have E : Hid (Sc.sz a b = -1) := by show _ = _; unfold Sc.sz; rw [if_pos (.inl ka), if_neg (by rw [ka]; exact fun c => kb c.symm), if_pos ka]
      clear hs ht ha hb sx sy ka kb
      go_enter Tryz.func70, Tryz.ntmps70
      go_wp2_with fail
      go_ret
      exact ⟨vret_int E.out.symm, Z.out.1⟩
  · have p1 : s.toList ≠ [48] := fun c => ka (sx.1 c)
    have p2 : (s.toList == [48]) = false := by rw [beq_eq_false_iff_ne]; exact p1
    by_cases kb : b.ds = [48]
    · have ht0 : t = ⟨#[48]⟩ := ht.inj (by rw [kb]; rfl)
      subst ht0
      have E : Hid (Sc.sz a b = 1) := by show _ = _; unfold Sc.sz; rw [if_pos (.inr kb), if_neg (by rw [kb]; exact ka), if_neg ka]
      clear hs ht ha hb sx sy ka kb
      go_enter Tryz.func70, Tryz.ntmps70
      go_wp2_with fail
      go_ret
      exact ⟨vret_int E.out.symm, Z.out.1⟩
    · have q1 : t.toList ≠ [48] := fun c => kb (sy.1 c)
      have q2 : (t.toList == [48]) = false := by rw [beq_eq_false_iff_ne]; exact q1
      have E : Sc.sz a b = Sc.mc a b := by unfold Sc.sz; rw [if_neg (by rintro (c | c); exact ka c; exact kb c)]
      have hsz := hs.size
      have htz := ht.size
      have ae0 := ha.e0
      have ae1 := ha.e1
      have be0 := hb.e0
      have be1 := hb.e1
      have al : (a.ds.length : Int) ≤ 281474976710657 := by have := ha.len; omega
      have bl : (b.ds.length : Int) ≤ 281474976710657 := by have := hb.len; omega
      by_cases hp : Sc.pl a = Sc.pl b
      · have E2 : Sc.sz a b = Sc.lex a.ds b.ds := by rw [E, mc_same hp]
        have hpi : b.e + (b.ds.length : Int) = a.e + (a.ds.length : Int) := by unfold Sc.pl at hp; omega
        have r1 : (b.e + (b.ds.length : Int) != a.e + (a.ds.length : Int)) = false := by simpa using hpi
        have DA : Hid (∀ (i : Nat) (p : Int) wx, p = a.e + a.ds.length - 1 - i → i ≤ 281474976710657 → Calls Tryz.prog 98 #[.agg #[.bool a.neg, .string s, .int .i64 a.e], .int .i64 p] wx fun r w' => r = .returned (.int .u8 (Sc.gd a.ds i)) ∧ Below wx.heap.size wx w') := fun i p wx h1 h2 => rdigit_any a s i p wx hs h1 ha.e0 ha.e1 ha.len h2
        have DB : Hid (∀ (i : Nat) (p : Int) wx, p = a.e + a.ds.length - 1 - i → i ≤ 281474976710657 → Calls Tryz.prog 98 #[.agg #[.bool b.neg, .string t, .int .i64 b.e], .int .i64 p] wx fun r w' => r = .returned (.int .u8 (Sc.gd b.ds i)) ∧ Below wx.heap.size wx w') := fun i p wx h1 h2 => rdigit_any b t i p wx ht (by omega) hb.e0 hb.e1 hb.len h2
        have LT : Hid (∀ i, (∀ t, t < i → Sc.gd a.ds t = Sc.gd b.ds t) → Sc.gd a.ds i < Sc.gd b.ds i → Sc.sz a b = -1) := fun i h1 h2 => by rw [E2]; exact Sc.lex_at i _ _ (fun x hx => (ha.dig x hx).1) (fun x hx => (hb.dig x hx).1) h1 h2
        have GT : Hid (∀ i, (∀ t, t < i → Sc.gd a.ds t = Sc.gd b.ds t) → Sc.gd b.ds i < Sc.gd a.ds i → Sc.sz a b = 1) := fun i h1 h2 => by
          rw [E2]
          have := Sc.lex_at i b.ds a.ds (fun x hx => (hb.dig x hx).1) (fun x hx => (ha.dig x hx).1) (fun t ht => (h1 t ht).symm) h2
          have e := Sc.lex_anti b.ds a.ds
          omega
        have EQ : Hid ((∀ t, Sc.gd a.ds t = Sc.gd b.ds t) → Sc.sz a b = 0) := fun h => by
          rw [E2, Sc.lex_zero]
          exact Sc.eq_of_gd (fun _ => ha.last ka) (fun _ => hb.last kb) h
        have GB : Hid (∀ (d : Sc.D) i, Nd d → 48 ≤ Sc.gd d.ds i ∧ Sc.gd d.ds i ≤ 57) := fun d i hd => by
          rcases Nat.lt_or_ge i d.ds.length with c | c
          · rw [Sc.gd_lt c]
            have := hd.dig (d.ds[i]) (by simp)
            simpa [Sc.pk, List.getD, c] using this
          · rw [Sc.gd_ge c]; omega
        have BA := hid (fun i => GB.out a i ha)
        have BB := hid (fun i => GB.out b i hb)
        clear hs ht ha hb sx sy ka kb E E2 hp GB
        go_enter Tryz.func70, Tryz.ntmps70
        go_wp2_with fail
        generalize (w.alloc (.cells #[.bool a.neg, .string s, .int .i64 a.e] 28)).alloc (.cells #[.bool b.neg, .string t, .int .i64 b.e] 28) = w0 at *
        go_loopw [6] (fun p wr => ∃ (i : Nat) (P : Int), p = .int .i64 P ∧ Hid (P = a.e + a.ds.length - 1 - i ∧ (i ≤ a.ds.length ∨ i ≤ b.ds.length) ∧ (∀ t, t < i → Sc.gd a.ds t = Sc.gd b.ds t) ∧ C2 w wr a b s t)) (fun p _ => match p with | .int _ P => (P + 1152921504606846976 + 1152921504606846976).toNat | _ => 0)
        case atStart => exact ⟨0, _, rfl, by omega, .inl (Nat.zero_le _), fun t ht => by omega, Z.out⟩
        case round =>
          obtain ⟨i, P, rfl, I⟩ := hrel
          obtain ⟨⟨c0, c1, c2⟩, c3, c4, c5⟩ := I.out.2.2.2.six
          have hP := I.out.1
          have hib : i ≤ 281474976710657 := by have := I.out.2.1; omega
          by_cases hi : i < a.ds.length ∨ i < b.ds.length
          · have hcond : a.e ≤ P ∨ (P < a.e ∧ b.e ≤ P) := by omega
            have A1 := hid (fun wx => DA.out i P wx hP hib)
            have B1 := hid (fun wx => DB.out i P wx hP hib)
            have xa := BA.out i
            have xb := BB.out i
            have Pb : -1152921504606846976 - 281474976710660 ≤ P ∧ P ≤ 1152921504606846976 + 281474976710660 := by omega
            have HP := hid hP
            have L1 := hid (LT.out i I.out.2.2.1)
            have G1 := hid (GT.out i I.out.2.2.1)
            have EE : Hid (Sc.gd a.ds i = Sc.gd b.ds i → ∀ t, t < i + 1 → Sc.gd a.ds t = Sc.gd b.ds t) := fun h t ht => by
              by_cases c : t = i
              · subst c; exact h
              · exact I.out.2.2.1 t (by omega)
            clear hP
            generalize Sc.gd a.ds i = ga at *
            generalize Sc.gd b.ds i = gb at *
            have tri : ga = gb ∨ (ga < gb ∧ (ga != gb) = true) ∨ (gb < ga ∧ (ga != gb) = true ∧ ¬ ga < gb) := by
              rcases Int.lt_trichotomy ga gb with h | h | h
              · exact .inr (.inl ⟨h, by simp; omega⟩)
              · exact .inl h
              · exact .inr (.inr ⟨h, by simp; omega, by omega⟩)
            rcases hcond with hc | ⟨hc, hc'⟩
            all_goals
              go_wp2_with fail
              refine (A1.out _).mono ?_
              rintro r w1 ⟨rfl, hB⟩
              have S1 := hid (I.out.2.2.2.on hB)
              clear hB c0 c1 c2 c3 c4 c5
              obtain ⟨⟨c0, c1, c2⟩, c3, c4, c5⟩ := S1.out.six
              go_wp2_with fail
              refine (B1.out _).mono ?_
              rintro r w2 ⟨rfl, hB⟩
              have S2 := hid (S1.out.on hB)
              clear hB c0 c1 c2 c3 c4 c5
              rcases tri with h | ⟨h, h'⟩ | ⟨h, h', h2⟩
              · subst h
                go_wp2_with fail
                go_roundw
                case rel => exact ⟨i + 1, _, rfl, by have := HP.out; omega, by omega, EE.out (by first | rfl | trivial), S2.out⟩
                case measure => simp; omega
              · go_wp2_with fail
                go_ret
                exact ⟨vret_int (L1.out h).symm, S2.out.1⟩
              · go_wp2_with fail
                go_ret
                exact ⟨vret_int (G1.out h).symm, S2.out.1⟩
          · have F : Hid (Sc.sz a b = 0) := EQ.out (fun t => by
              rcases Nat.lt_or_ge t i with c | c
              · exact I.out.2.2.1 t c
              · rw [Sc.gd_ge (by omega), Sc.gd_ge (by omega)])
            have h1 : P < a.e := by omega
            have h2 : P < b.e := by omega
            clear hP hi
            go_wp2_with fail
            go_ret
            exact ⟨vret_int F.out.symm, I.out.2.2.2.1⟩
      · have hpi : ¬ b.e + (b.ds.length : Int) = a.e + (a.ds.length : Int) := fun c => hp (by unfold Sc.pl; omega)
        have r1 : (b.e + (b.ds.length : Int) != a.e + (a.ds.length : Int)) = true := by simpa using hpi
        have E2 : Hid (Sc.sz a b = Sc.cmpI (a.e + a.ds.length) (b.e + b.ds.length)) := by show _ = _; rw [E, mc_apart hp]; rfl
        have CC := Sc.cmpI_c (a.e + a.ds.length) (b.e + b.ds.length)
        clear hs ht ha hb sx sy ka kb E hp
        rcases CC with ⟨h, h'⟩ | ⟨h, h'⟩ | ⟨h, h'⟩
        · have F : Hid (Sc.sz a b = -1) := by rw [E2.out]; exact h'
          clear h' E2
          go_enter Tryz.func70, Tryz.ntmps70
          go_wp2_with fail
          go_ret
          exact ⟨vret_int F.out.symm, Z.out.1⟩
        · exact absurd h.symm hpi
        · have F : Hid (Sc.sz a b = 1) := by rw [E2.out]; exact h'
          have hnl : ¬ (a.e + (a.ds.length : Int) < b.e + (b.ds.length : Int)) := by omega
          clear h' E2
          go_enter Tryz.func70, Tryz.ntmps70
          go_wp2_with fail
          go_ret
          exact ⟨vret_int F.out.symm, Z.out.1⟩
end Go.Proofs.YtonnlimmjelldaaGreatDoor

namespace Go.Proofs.YtonnlimmjelldaaGreatDoor
open Go Go.RowKit Go.Deep

/-- Two new boxes at given places. -/
def Pair2 (w wx : World) (g h : Nat) (v0 v1 v2 u0 u1 u2 : Value) : Prop := Below w.heap.size w wx ∧ w.heap.size ≤ g ∧ w.heap.size ≤ h ∧ g ≠ h ∧ Row3 wx g v0 v1 v2 ∧ Row3 wx h u0 u1 u2
theorem Pair2.on {w wx w' : World} {g h : Nat} {v0 v1 v2 u0 u1 u2 : Value} (k : Pair2 w wx g h v0 v1 v2 u0 u1 u2) (b : Below wx.heap.size wx w') : Pair2 w w' g h v0 v1 v2 u0 u1 u2 :=
  ⟨below_on k.1 b, k.2.1, k.2.2.1, k.2.2.2.1, k.2.2.2.2.1.below b k.2.2.2.2.1.lt, k.2.2.2.2.2.below b k.2.2.2.2.2.lt⟩
theorem row3_set0 {w : World} {b : Nat} {v0 v1 v2 : Value} (h : Row3 w b v0 v1 v2) (x : Value) : Row3 (w.setCell ⟨b, 0, none⟩ x) b x v1 v2 := set1 h (by simp [Array.setIfInBounds])
theorem Pair2.setA {w wx : World} {g h : Nat} {v0 v1 v2 u0 u1 u2 : Value} (k : Pair2 w wx g h v0 v1 v2 u0 u1 u2) (x : Value) : Pair2 w (wx.setCell ⟨g, 0, none⟩ x) g h x v1 v2 u0 u1 u2 :=
  ⟨k.1.setCell (p := ⟨g, 0, none⟩) k.2.1 x, k.2.1, k.2.2.1, k.2.2.2.1, row3_set0 k.2.2.2.2.1 x, k.2.2.2.2.2.far k.2.2.2.1⟩
theorem Pair2.setB {w wx : World} {g h : Nat} {v0 v1 v2 u0 u1 u2 : Value} (k : Pair2 w wx g h v0 v1 v2 u0 u1 u2) (x : Value) : Pair2 w (wx.setCell ⟨h, 0, none⟩ x) g h v0 v1 v2 x u1 u2 :=
  ⟨k.1.setCell (p := ⟨h, 0, none⟩) k.2.2.1 x, k.2.1, k.2.2.1, k.2.2.2.1, k.2.2.2.2.1.far (fun c => k.2.2.2.1 c.symm), row3_set0 k.2.2.2.2.2 x⟩
theorem Pair2.flat {w wx : World} {g h : Nat} {v0 v1 v2 u0 u1 u2 : Value} (k : Pair2 w wx g h v0 v1 v2 u0 u1 u2) :
    ((wx.cell? ⟨g, 0, none⟩ = some v0 ∧ wx.cell? ⟨g, 1, none⟩ = some v1 ∧ wx.cell? ⟨g, 2, none⟩ = some v2) ∧ (wx.cell? ⟨h, 0, none⟩ = some u0 ∧ wx.cell? ⟨h, 1, none⟩ = some u1 ∧ wx.cell? ⟨h, 2, none⟩ = some u2)) ∧ (wx.frozen? ⟨g, 0, none⟩ = false ∧ wx.frozen? ⟨h, 0, none⟩ = false) :=
  ⟨⟨k.2.2.2.2.1.cells.1, k.2.2.2.2.2.cells.1⟩, k.2.2.2.2.1.cells.2.1, k.2.2.2.2.2.cells.2.1⟩

theorem nd_nrm {neg : Bool} {xs : List Int} {e : Int} (h : Sc.IsDec xs e) (hn : xs.length ≤ 281474976710655) : Nd (Sc.nrm neg xs e) := by
  have hi := Sc.nrm_isdec (neg := neg) h
  refine ⟨hi.2.1, hi.2.2.1, by have := Sc.nrm_len neg xs e; omega, fun x hx => Sc.dg_iff.1 (hi.2.2.2.1 x hx), fun c => (Sc.nrm_ends c).2.1⟩
theorem nmd_nrm1 {neg : Bool} {xs : List Int} {e : Int} (h : Sc.IsDec xs e) : nmd neg xs e = Sc.nrm neg xs e := by unfold nmd; rw [if_pos h]
/-- The document's order by cases of the signs. -/
theorem cmpD_ref {a b : Sc.D} (ha : Sc.Nrm a) (hb : Sc.Nrm b) {na nb : Bool} (h1 : na = if a.ds = [48] then false else a.neg) (h2 : nb = if b.ds = [48] then false else b.neg) :
    Sc.cmpD a b = if na = true ∧ nb = false then -1 else if na = false ∧ nb = true then 1 else if na = true then Sc.sz b a else Sc.sz a b := by
  have hc := Sc.cmpD_c ha hb
  have an := Sc.mc_anti a b
  have sa : Sc.sgn a = if a.ds = [48] then 0 else if a.neg = true then -1 else 1 := rfl
  have sb : Sc.sgn b = if b.ds = [48] then 0 else if b.neg = true then -1 else 1 := rfl
  unfold Sc.sz
  by_cases ca : a.ds = [48]
  · rw [if_pos ca] at h1 sa
    subst h1
    by_cases cb : b.ds = [48]
    · rw [if_pos cb] at h2 sb
      subst h2
      simp [ca, cb]; omega
    · rw [if_neg cb] at h2 sb
      subst h2
      cases hn : b.neg with
      | true => rw [hn] at sb; simp; simp at sb; omega
      | false => rw [hn] at sb; simp [ca, Ne.symm cb]; simp at sb; omega
  · rw [if_neg ca] at h1 sa
    subst h1
    by_cases cb : b.ds = [48]
    · rw [if_pos cb] at h2 sb
      subst h2
      cases hn : a.neg with
      | true => rw [hn] at sa; simp; simp at sa; omega
      | false => rw [hn] at sa; simp [ca, cb]; simp at sa; omega
    · rw [if_neg cb] at h2 sb
      subst h2
      cases hn : a.neg <;> cases hm : b.neg <;> (rw [hn] at sa; rw [hm] at sb; simp [ca, cb]; simp at sa sb; omega)

set_option maxRecDepth 100000 in
set_option maxHeartbeats 4000000 in
theorem rcmp_any (na nb : Bool) (s t : ByteArray) (xs ys : List Int) (ea eb : Int) (w : World) (hs : Str s xs) (ht : Str t ys) (hn : xs.length ≤ 281474976710655) (hm : ys.length ≤ 281474976710655) :
    Calls Tryz.prog 36 #[decV na s ea, decV nb t eb] w fun r w' => r = .returned (.tuple #[.int .i64 (cmpE na xs ea nb ys eb).1, .int .i64 (cmpE na xs ea nb ys eb).2]) ∧ Below w.heap.size w w' := by
  have TA := hid (fun wx => rnorm_any na s xs ea wx hs hn)
  have TB := hid (fun wx => rnorm_any nb t ys eb wx ht hm)
  have Z := hid (Two3.new w (.bool na) (.string s) (.int .i64 ea) (.bool nb) (.string t) (.int .i64 eb))
  unfold decV at TA TB ⊢
  by_cases hd : Sc.IsDec xs ea ∧ Sc.IsDec ys eb
  · obtain ⟨hda, hdb⟩ := hd
    have CE : Hid (cmpE na xs ea nb ys eb = (Sc.cmpD (Sc.nrm na xs ea) (Sc.nrm nb ys eb), 0)) := by show _ = _; unfold cmpE; rw [if_pos ⟨hda, hdb⟩]
    have eA : errOf xs ea = 0 := by unfold errOf; rw [if_pos hda]
    have eB : errOf ys eb = 0 := by unfold errOf; rw [if_pos hdb]
    have nA := nmd_nrm1 (neg := na) hda
    have nB := nmd_nrm1 (neg := nb) hdb
    have ndA := nd_nrm (neg := na) hda hn
    have ndB := nd_nrm (neg := nb) hdb hm
    have CR := hid (fun (p q : Bool) h1 h2 => cmpD_ref (a := Sc.nrm na xs ea) (b := Sc.nrm nb ys eb) (na := p) (nb := q) (Sc.nrm_is _ _ _) (Sc.nrm_is _ _ _) h1 h2)
    clear hs ht hn hm
    go_enter Tryz.func36, Tryz.ntmps36
    go_wp2_with fail
    refine (TA.out _).mono ?_
    rintro r w1 ⟨v, rfl, ⟨s1, hv, hs1⟩, hB⟩
    rw [nA] at hv hs1
    rw [eA]
    unfold decV at hv
    subst hv
    have S1 := hid ((Z.out.on hB).on (alloc_b w1 (.cells #[.bool (Sc.nrm na xs ea).neg, .string s1, .int .i64 (Sc.nrm na xs ea).e] 28)))
    have A1 : Hid (Row3 (w1.alloc (.cells #[.bool (Sc.nrm na xs ea).neg, .string s1, .int .i64 (Sc.nrm na xs ea).e] 28)) w1.heap.size (.bool (Sc.nrm na xs ea).neg) (.string s1) (.int .i64 (Sc.nrm na xs ea).e)) := Row3.new _ _ _ _
    have G1 : Hid (w.heap.size ≤ w1.heap.size) := (Z.out.on hB).1.size
    clear hB Z TA nA eA hda
    obtain ⟨⟨c3, c4, c5⟩, -⟩ := S1.out.2.2.cells
    go_wp2_with fail
    generalize w1.alloc (.cells #[.bool (Sc.nrm na xs ea).neg, .string s1, .int .i64 (Sc.nrm na xs ea).e] 28) = w2 at *
    generalize w1.heap.size = g at *
    refine (TB.out _).mono ?_
    rintro r w3 ⟨v, rfl, ⟨t1, hv, ht1⟩, hB⟩
    rw [nB] at hv ht1
    rw [eB]
    unfold decV at hv
    subst hv
    have P : Hid (Pair2 w (w3.alloc (.cells #[.bool (Sc.nrm nb ys eb).neg, .string t1, .int .i64 (Sc.nrm nb ys eb).e] 28)) g w3.heap.size (.bool (Sc.nrm na xs ea).neg) (.string s1) (.int .i64 (Sc.nrm na xs ea).e) (.bool (Sc.nrm nb ys eb).neg) (.string t1) (.int .i64 (Sc.nrm nb ys eb).e)) := by
      have l1 := (A1.out.below hB A1.out.lt).lt
      exact ⟨(S1.out.on hB).on (alloc_b _ _) |>.1, G1.out, (S1.out.on hB).1.size, by omega, (A1.out.below hB A1.out.lt).below (alloc_b _ _) l1, Row3.new _ _ _ _⟩
    have SZ : Hid (∀ wx (p q : Bool), Calls Tryz.prog 70 #[.agg #[.bool p, .string s1, .int .i64 (Sc.nrm na xs ea).e], .agg #[.bool q, .string t1, .int .i64 (Sc.nrm nb ys eb).e]] wx fun r w' => r = .returned (.int .i64 (Sc.sz (Sc.nrm na xs ea) (Sc.nrm nb ys eb))) ∧ Below wx.heap.size wx w') := fun wx p q => size_any ⟨p, (Sc.nrm na xs ea).ds, (Sc.nrm na xs ea).e⟩ ⟨q, (Sc.nrm nb ys eb).ds, (Sc.nrm nb ys eb).e⟩ s1 t1 wx hs1 ht1 ⟨ndA.e0, ndA.e1, ndA.len, ndA.dig, ndA.last⟩ ⟨ndB.e0, ndB.e1, ndB.len, ndB.dig, ndB.last⟩
    have SY : Hid (∀ wx (p q : Bool), Calls Tryz.prog 70 #[.agg #[.bool q, .string t1, .int .i64 (Sc.nrm nb ys eb).e], .agg #[.bool p, .string s1, .int .i64 (Sc.nrm na xs ea).e]] wx fun r w' => r = .returned (.int .i64 (Sc.sz (Sc.nrm nb ys eb) (Sc.nrm na xs ea))) ∧ Below wx.heap.size wx w') := fun wx p q => size_any ⟨q, (Sc.nrm nb ys eb).ds, (Sc.nrm nb ys eb).e⟩ ⟨p, (Sc.nrm na xs ea).ds, (Sc.nrm na xs ea).e⟩ t1 s1 wx ht1 hs1 ⟨ndB.e0, ndB.e1, ndB.len, ndB.dig, ndB.last⟩ ⟨ndA.e0, ndA.e1, ndA.len, ndA.dig, ndA.last⟩
    have sx : s1.toList = [48] ↔ (Sc.nrm na xs ea).ds = [48] := by
      have := hs1.eq (t := ⟨#[48]⟩) (ys := [48]) rfl
      rw [str48] at this
      by_cases c : (Sc.nrm na xs ea).ds = [48]
      · rw [decide_eq_true c] at this; simpa [c] using this
      · rw [decide_eq_false c] at this; simpa [c] using this
    have sy : t1.toList = [48] ↔ (Sc.nrm nb ys eb).ds = [48] := by
      have := ht1.eq (t := ⟨#[48]⟩) (ys := [48]) rfl
      rw [str48] at this
      by_cases c : (Sc.nrm nb ys eb).ds = [48]
      · rw [decide_eq_true c] at this; simpa [c] using this
      · rw [decide_eq_false c] at this; simpa [c] using this
    have FF : Hid (∀ (x : Int) w', x = Sc.cmpD (Sc.nrm na xs ea) (Sc.nrm nb ys eb) → Below w.heap.size w w' → Ending.returned (.tuple #[.int .i64 x, .int .i64 0]) = .returned (.tuple #[.int .i64 (cmpE na xs ea nb ys eb).1, .int .i64 (cmpE na xs ea nb ys eb).2]) ∧ Below w.heap.size w w') := fun x w' hx b => ⟨by rw [CE.out, hx], b⟩
    have H1 := hid hs1
    have H2 := hid ht1
    clear hB S1 A1 TB nB eB hdb c3 c4 c5 CE hs1 ht1 ndA ndB G1
    generalize Sc.nrm na xs ea = A at *
    generalize Sc.nrm nb ys eb = B at *
    go_upto_region 5 with fail
    generalize w3.alloc (.cells #[.bool B.neg, .string t1, .int .i64 B.e] 28) = w4 at *
    generalize w3.heap.size = h at *
    obtain ⟨⟨⟨c0, c1, c2⟩, c3, c4, c5⟩, f0, f1⟩ := P.out.flat
    have hgh : g ≠ h := P.out.2.2.2.1
    have hhg : h ≠ g := fun c => hgh c.symm
    by_cases ka : A.ds = [48]
    · have q0 : s1 = ⟨#[48]⟩ := H1.out.inj (by rw [ka]; rfl)
      subst q0
      by_cases kb : B.ds = [48]
      · have q1 : t1 = ⟨#[48]⟩ := H2.out.inj (by rw [kb]; rfl)
        subst q1
        have CC := hid (CR.out false false (by rw [if_pos ka]) (by rw [if_pos kb]))
        have SS := hid ((P.out.setA (.bool false)).setB (.bool false))
        clear CR P ka kb
        go_wp2_with fail
        refine (SZ.out _ _ _).mono ?_
        rintro r w5 ⟨rfl, hBB⟩
        have DD := hid (below_on SS.out.1 hBB)
        clear hBB
        go_wp2_with fail
        go_ret2
        exact FF.out _ _ (by rw [CC.out]; simp) DD.out
      · have q1 : t1.toList ≠ [48] := fun c => kb (sy.1 c)
        have q2 : (t1.toList == [48]) = false := by rw [beq_eq_false_iff_ne]; exact q1
        obtain ⟨n, hB⟩ : ∃ n, B.neg = n := ⟨_, rfl⟩
        cases n with
        | true =>
          have CC := hid (CR.out false true (by rw [if_pos ka]) (by rw [if_neg kb, hB]))
          have SS := hid (P.out.setA (.bool false))
          clear CR P ka kb
          go_wp2_with fail
          go_ret2
          exact FF.out _ _ (by rw [CC.out]; simp) SS.out.1
        | false =>
          have CC := hid (CR.out false false (by rw [if_pos ka]) (by rw [if_neg kb, hB]))
          have SS := hid (P.out.setA (.bool false))
          clear CR P ka kb
          go_wp2_with fail
          refine (SZ.out _ _ _).mono ?_
          rintro r w5 ⟨rfl, hBB⟩
          have DD := hid (below_on SS.out.1 hBB)
          clear hBB
          go_wp2_with fail
          go_ret2
          exact FF.out _ _ (by rw [CC.out]; simp) DD.out
    · have p1 : s1.toList ≠ [48] := fun c => ka (sx.1 c)
      have p2 : (s1.toList == [48]) = false := by rw [beq_eq_false_iff_ne]; exact p1
      obtain ⟨m, hA⟩ : ∃ m, A.neg = m := ⟨_, rfl⟩
      by_cases kb : B.ds = [48]
      · have q1 : t1 = ⟨#[48]⟩ := H2.out.inj (by rw [kb]; rfl)
        subst q1
        cases m with
        | true =>
          have CC := hid (CR.out true false (by rw [if_neg ka, hA]) (by rw [if_pos kb]))
          have SS := hid (P.out.setB (.bool false))
          clear CR P ka kb
          go_wp2_with fail
          go_ret2
          exact FF.out _ _ (by rw [CC.out]; simp) SS.out.1
        | false =>
          have CC := hid (CR.out false false (by rw [if_neg ka, hA]) (by rw [if_pos kb]))
          have SS := hid (P.out.setB (.bool false))
          clear CR P ka kb
          go_wp2_with fail
          refine (SZ.out _ _ _).mono ?_
          rintro r w5 ⟨rfl, hBB⟩
          have DD := hid (below_on SS.out.1 hBB)
          clear hBB
          go_wp2_with fail
          go_ret2
          exact FF.out _ _ (by rw [CC.out]; simp) DD.out
      · have q1 : t1.toList ≠ [48] := fun c => kb (sy.1 c)
        have q2 : (t1.toList == [48]) = false := by rw [beq_eq_false_iff_ne]; exact q1
        obtain ⟨n, hB⟩ : ∃ n, B.neg = n := ⟨_, rfl⟩
        cases m with
        | true =>
          cases n with
          | true =>
            have CC := hid (CR.out true true (by rw [if_neg ka, hA]) (by rw [if_neg kb, hB]))
            have SS := hid P.out
            clear CR P ka kb
            go_wp2_with fail
            refine (SY.out _ _ _).mono ?_
            rintro r w5 ⟨rfl, hBB⟩
            have DD := hid (below_on SS.out.1 hBB)
            clear hBB
            go_wp2_with fail
            go_ret2
            exact FF.out _ _ (by rw [CC.out]; simp) DD.out
          | false =>
            have CC := hid (CR.out true false (by rw [if_neg ka, hA]) (by rw [if_neg kb, hB]))
            have SS := hid P.out
            clear CR P ka kb
            go_wp2_with fail
            go_ret2
            exact FF.out _ _ (by rw [CC.out]; simp) SS.out.1
        | false =>
          cases n with
          | true =>
            have CC := hid (CR.out false true (by rw [if_neg ka, hA]) (by rw [if_neg kb, hB]))
            have SS := hid P.out
            clear CR P ka kb
            go_wp2_with fail
            go_ret2
            exact FF.out _ _ (by rw [CC.out]; simp) SS.out.1
          | false =>
            have CC := hid (CR.out false false (by rw [if_neg ka, hA]) (by rw [if_neg kb, hB]))
            have SS := hid P.out
            clear CR P ka kb
            go_wp2_with fail
            refine (SZ.out _ _ _).mono ?_
            rintro r w5 ⟨rfl, hBB⟩
            have DD := hid (below_on SS.out.1 hBB)
            clear hBB
            go_wp2_with fail
            go_ret2
            exact FF.out _ _ (by rw [CC.out]; simp) DD.out
  · have FF : Hid (∀ w', Below w.heap.size w w' → Ending.returned (.tuple #[.int .i64 0, .int .i64 80]) = .returned (.tuple #[.int .i64 (cmpE na xs ea nb ys eb).1, .int .i64 (cmpE na xs ea nb ys eb).2]) ∧ Below w.heap.size w w') := fun w' b => ⟨by unfold cmpE; rw [if_neg hd], b⟩
    have EE : Hid (errOf xs ea = 80 ∨ (errOf xs ea = 0 ∧ errOf ys eb = 80)) := by
      show _ ∨ _
      unfold errOf
      by_cases c : Sc.IsDec xs ea
      · right; rw [if_pos c, if_neg (fun d => hd ⟨c, d⟩)]; exact ⟨rfl, rfl⟩
      · left; rw [if_neg c]
    clear hs ht hn hm hd
    go_enter Tryz.func36, Tryz.ntmps36
    go_wp2_with fail
    refine (TA.out _).mono ?_
    rintro r w1 ⟨v, rfl, ⟨s1, hv, hs1⟩, hB⟩
    unfold decV at hv
    subst hv
    have S1 := hid ((Z.out.on hB).on (alloc_b w1 (.cells #[.bool (nmd na xs ea).neg, .string s1, .int .i64 (nmd na xs ea).e] 28)))
    clear hB Z TA hs1
    obtain ⟨⟨c3, c4, c5⟩, -⟩ := S1.out.2.2.cells
    generalize errOf xs ea = x1 at *
    generalize nmd na xs ea = A at *
    go_wp2_with fail
    generalize w1.alloc (.cells #[.bool A.neg, .string s1, .int .i64 A.e] 28) = w2 at *
    generalize w1.heap.size = g at *
    refine (TB.out _).mono ?_
    rintro r w3 ⟨v, rfl, ⟨t1, hv, ht1⟩, hB⟩
    unfold decV at hv
    subst hv
    have D := hid (below_on (S1.out.on hB).1 (alloc_b w3 (.cells #[.bool (nmd nb ys eb).neg, .string t1, .int .i64 (nmd nb ys eb).e] 28)))
    clear hB S1 TB ht1 c3 c4 c5
    generalize errOf ys eb = y1 at *
    generalize nmd nb ys eb = B at *
    rcases EE.out with h | ⟨h, h'⟩
    · subst h
      go_wp2_with fail
      go_ret2
      exact FF.out _ D.out
    · subst h h'
      go_wp2_with fail
      go_ret2
      exact FF.out _ D.out
end Go.Proofs.YtonnlimmjelldaaGreatDoor

namespace Go.Proofs.YtonnlimmjelldaaGreatDoor
open Go Go.RowKit Go.Deep

/-- What Bounds tells of a finite double. -/
def BoTold (a : Int) (w : World) (e : Ending) (w' : World) : Prop :=
  ∃ s2 s3, e = .returned (.tuple #[.agg #[.bool false, .string s2, .int .i64 (Sh.dd (Sh.A a)).e], .agg #[.bool false, .string s3, .int .i64 (Sh.dd (Sh.B a)).e], .bool (decide (a % 2 = 0)), .int .i64 0]) ∧ Hid (Str s2 (Sh.dd (Sh.A a)).ds ∧ Str s3 (Sh.dd (Sh.B a)).ds) ∧ Below w.heap.size w w'
namespace Tn
open Sh
theorem hd_yes (A B x : Sc.D) : hD A B x true = (decide (Sc.cmpD A x ≤ 0) && decide (Sc.cmpD x B ≤ 0)) := by
  unfold hD
  rw [Bool.true_and]
  rcases (show Sc.cmpD A x < 0 ∨ Sc.cmpD A x = 0 ∨ 0 < Sc.cmpD A x by omega) with h | h | h <;> rcases (show Sc.cmpD x B < 0 ∨ Sc.cmpD x B = 0 ∨ 0 < Sc.cmpD x B by omega) with k | k | k <;> simp [h, k] <;> omega
theorem hd_no (A B x : Sc.D) : hD A B x false = (decide (Sc.cmpD A x < 0) && decide (Sc.cmpD x B < 0)) := by
  unfold hD
  simp
theorem cmpE_nm {a b : Sc.D} (ha : Nm a) (hb : Nm b) : cmpE a.neg a.ds a.e b.neg b.ds b.e = (Sc.cmpD a b, 0) := by
  unfold cmpE
  rw [if_pos ⟨ha.dec, hb.dec⟩, ha.fix, hb.fix]
end Tn
end Go.Proofs.YtonnlimmjelldaaGreatDoor

namespace Go.Proofs.YtonnlimmjelldaaGreatDoor
open Go Go.RowKit Go.Deep

theorem fr3_on' {W W' : World} {g : Nat} {v0 v1 v2 : Value} (h : FR3 W g v0 v1 v2) (b : Below W.heap.size W W') : FR3 W' g v0 v1 v2 := h.below b h.lt
theorem bel_on' {w W W' : World} (h : Below w.heap.size w W) (b : Below W.heap.size W W') : Below w.heap.size w W' := h.trans (b.mono h.size)
theorem fr3_drew {w : World} {b : Nat} {v0 v1 v2 : Value} (h : FR3 w b v0 v1 v2) : w.drew.heap[b]? = some (.cells #[v0, v1, v2] 28 (0, 0)) := h
theorem results_rr_tt {P : Program} {fn : Func} {p q u v : Tmp} {ty : TypeId} (h : fn.results = #[.cell p ty, .cell q ty, .tmp u, .tmp v]) (tmps : Array Value) (w : World) (g k : Nat) (t : TypeId) (cs ds : Array Value) (fr : Nat × Nat) (d : TypeDesc)
    (hp : tmps.getD p undef = .pointer (some ⟨g, 0, none⟩)) (hq : tmps.getD q undef = .pointer (some ⟨k, 0, none⟩)) (hg : w.heap[g]? = some (.cells cs t fr)) (hk : w.heap[k]? = some (.cells ds t fr))
    (hu : P.underlying ty = some d) (hd : (match d with | .struct _ | .array _ _ => true | _ => false) = true) (hi : (P.info? ty).map (·.size) = some cs.size) (hj : (P.info? ty).map (·.size) = some ds.size) :
    (results fn tmps).run P w = .ok (.tuple #[.agg cs, .agg ds, tmps.getD u undef, tmps.getD v undef]) w := by
  have hp' : tmps[p]?.getD undef = .pointer (some ⟨g, 0, none⟩) := by simpa using hp
  have hq' : tmps[q]?.getD undef = .pointer (some ⟨k, 0, none⟩) := by simpa using hq
  simp [results, h, hp', hq', asAddr, run_loadVar_row w g t ty cs fr d hg hu hd hi, run_loadVar_row w k t ty ds fr d hk hu hd hj]

set_option maxRecDepth 100000 in
set_option maxHeartbeats 2000000 in
theorem zbnd_inf (d : Int) (w : World) (h0 : 0 ≤ d) (h1 : d < 18446744073709551616) (hf : ¬ d % 9223372036854775808 < 9218868437227405312) :
    Calls Tryz.prog 14 #[.int .u64 d] w fun e w' => e = .returned (.tuple #[.agg #[.bool false, .string ⟨#[]⟩, .int .i64 0], .agg #[.bool false, .string ⟨#[]⟩, .int .i64 0], .bool false, .int .i64 5]) ∧ Below w.heap.size w w' := by
  have FN := hid (fun wx : World => zfinite_any d wx h0 h1)
  rw [Sh.fnt_iff, decide_eq_false hf] at FN
  have b1 := alloc_b w (.cells #[.bool false, .string ⟨#[]⟩, .int .i64 0] 28)
  have b2 := alloc_b (w.alloc (.cells #[.bool false, .string ⟨#[]⟩, .int .i64 0] 28)) (.cells #[.bool false, .string ⟨#[]⟩, .int .i64 0] 28)
  have s1 : (w.alloc (.cells #[.bool false, .string ⟨#[]⟩, .int .i64 0] 28)).heap.size = w.heap.size + 1 := Array.size_push ..
  have F1 := (FR3.new w (.bool false) (.string ⟨#[]⟩) (.int .i64 0)).below b2 (by rw [s1]; omega)
  have F2 := FR3.new (w.alloc (.cells #[.bool false, .string ⟨#[]⟩, .int .i64 0] 28)) (.bool false) (.string ⟨#[]⟩) (.int .i64 0)
  rw [s1] at F2
  have H1 := hid F1
  have H2 := hid F2
  have HB := hid (b1.trans (b2.mono b1.size))
  clear b1 b2 s1 F1 F2 h0 h1 hf
  go_enter Tryz.func14, Tryz.ntmps14
  go_wp2_with fail
  refine (FN.out _).mono ?_
  rintro e wz ⟨rfl, hz⟩
  subst hz
  go_wp2_with fail
  (try simp only [Exit.inBlock, Exit.then])
  refine bodyPost_ret (results_rr_tt rfl _ _ w.heap.size (w.heap.size + 1) 28 _ _ (0, 0) _ rfl rfl H1.out H2.out Tryz.underlying28 rfl (by kernel_rfl) (by kernel_rfl)) rfl ?_
  exact ⟨rfl, HB.out⟩

set_option maxRecDepth 100000 in
set_option maxHeartbeats 8000000 in
theorem zbnd_any (d : Int) (w : World) (h0 : 0 ≤ d) (h1 : d < 18446744073709551616) (hf : d % 9223372036854775808 < 9218868437227405312) :
    Calls Tryz.prog 14 #[.int .u64 d] w fun e w' => ∃ s2 s3, e = .returned (.tuple #[.agg #[.bool (Sh.dd (Sh.A (d % 9223372036854775808))).neg, .string s2, .int .i64 (Sh.dd (Sh.A (d % 9223372036854775808))).e], .agg #[.bool (Sh.dd (Sh.B (d % 9223372036854775808))).neg, .string s3, .int .i64 (Sh.dd (Sh.B (d % 9223372036854775808))).e], .bool (decide (d % 9223372036854775808 % 2 = 0)), .int .i64 0]) ∧ Hid (Str s2 (Sh.dd (Sh.A (d % 9223372036854775808))).ds ∧ Str s3 (Sh.dd (Sh.B (d % 9223372036854775808))).ds) ∧ Below w.heap.size w w' := by
  have FN := hid (fun wx : World => zfinite_any d wx h0 h1)
  have SP := hid (fun wx : World => zspan_any d wx h0 h1 hf)
  rw [Sh.fnt_iff, decide_eq_true hf] at FN
  have b1 := alloc_b w (.cells #[.bool false, .string ⟨#[]⟩, .int .i64 0] 28)
  have b2 := alloc_b (w.alloc (.cells #[.bool false, .string ⟨#[]⟩, .int .i64 0] 28)) (.cells #[.bool false, .string ⟨#[]⟩, .int .i64 0] 28)
  have s1 : (w.alloc (.cells #[.bool false, .string ⟨#[]⟩, .int .i64 0] 28)).heap.size = w.heap.size + 1 := Array.size_push ..
  have F1 := (FR3.new w (.bool false) (.string ⟨#[]⟩) (.int .i64 0)).below b2 (by rw [s1]; omega)
  have F2 := FR3.new (w.alloc (.cells #[.bool false, .string ⟨#[]⟩, .int .i64 0] 28)) (.bool false) (.string ⟨#[]⟩) (.int .i64 0)
  rw [s1] at F2
  have H0 := hid (And.intro F1 (And.intro F2 (b1.trans (b2.mono b1.size))))
  generalize d % 9223372036854775808 = a at *
  clear b1 b2 s1 F1 F2 h0 h1 hf
  go_enter Tryz.func14, Tryz.ntmps14
  go_wp2_with fail
  generalize (w.alloc (.cells #[.bool false, .string ⟨#[]⟩, .int .i64 0] 28)).alloc (.cells #[.bool false, .string ⟨#[]⟩, .int .i64 0] 28) = wA at *
  refine (FN.out _).mono ?_
  rintro e wz ⟨rfl, hz⟩
  rw [hz]
  clear hz FN
  go_wp2_with fail
  refine (SP.out _).mono ?_
  rintro e w1 ⟨v, rfl, ⟨s1, s2, s3, hv, g1, g2, g3⟩, B1⟩
  subst hv
  have HS := hid (And.intro g2 g3)
  clear g1 g2 g3 SP
  unfold spanV
  generalize (Sh.dd (Sh.V a)).neg = p0 at *
  generalize (Sh.dd (Sh.V a)).e = p2 at *
  generalize hAn : (Sh.dd (Sh.A a)).neg = a0 at *
  generalize hAe : (Sh.dd (Sh.A a)).e = a2 at *
  generalize hBn : (Sh.dd (Sh.B a)).neg = e0 at *
  generalize hBe : (Sh.dd (Sh.B a)).e = e2 at *
  generalize hcc : decide (a % 2 = 0) = c at *
  have c1 := alloc_b w1 (.cells #[.bool p0, .string s1, .int .i64 p2, .bool a0, .string s2, .int .i64 a2, .bool e0, .string s3, .int .i64 e2, .bool c] 44)
  have X0 := hid (And.intro (fr3_on' (fr3_on' H0.out.1 B1) c1) (And.intro (fr3_on' (fr3_on' H0.out.2.1 B1) c1) (And.intro (bel_on' (bel_on' H0.out.2.2 B1) c1) (heap_alloc_new w1 (.cells #[.bool p0, .string s1, .int .i64 p2, .bool a0, .string s2, .int .i64 a2, .bool e0, .string s3, .int .i64 e2, .bool c] 44)))))
  clear c1 B1 H0
  go_upto_region 4 with fail
  generalize w1.alloc (.cells #[.bool p0, .string s1, .int .i64 p2, .bool a0, .string s2, .int .i64 a2, .bool e0, .string s3, .int .i64 e2, .bool c] 44) = w2 at *
  have ne1 : w1.heap.size ≠ w.heap.size := fun q => by
    have z := X0.out.2.2.2
    rw [q] at z
    have y := X0.out.1
    rw [FR3] at y
    rw [y] at z
    exact absurd (congrArg (fun o : Option Obj => match o with | some (.cells c _ _) => c.size | _ => 0) z) (by simp)
  have ne2 : w1.heap.size ≠ w.heap.size + 1 := fun q => by
    have z := X0.out.2.2.2
    rw [q] at z
    have y := X0.out.2.1
    rw [FR3] at y
    rw [y] at z
    exact absurd (congrArg (fun o : Option Obj => match o with | some (.cells c _ _) => c.size | _ => 0) z) (by simp)
  generalize w1.heap.size = sb at *
  have SC : ∀ (i : Nat) (v : Value), #[Value.bool p0, .string s1, .int .i64 p2, .bool a0, .string s2, .int .i64 a2, .bool e0, .string s3, .int .i64 e2, .bool c][i]? = some v → w2.cell? ⟨sb, i, none⟩ = some v := fun i v hv => by
    have z := X0.out.2.2.2
    simp only [World.cell?, z]
    exact hv
  have c3 := SC 3 _ rfl
  have c4 := SC 4 _ rfl
  have c5 := SC 5 _ rfl
  have c6 := SC 6 _ rfl
  have c7 := SC 7 _ rfl
  have c8 := SC 8 _ rfl
  have c9 := SC 9 _ rfl
  obtain ⟨⟨r0, r1, r2⟩, f0, f1, f2⟩ := X0.out.1.cells
  obtain ⟨⟨q0, q1, q2⟩, k0, k1, k2⟩ := X0.out.2.1.cells
  have K1 : Hid (FR3 ((((((w2.setCell ⟨w.heap.size, 0, none⟩ (.bool a0)).setCell ⟨w.heap.size, 1, none⟩ (.string s2)).setCell ⟨w.heap.size, 2, none⟩ (.int .i64 a2)).setCell ⟨w.heap.size + 1, 0, none⟩ (.bool e0)).setCell ⟨w.heap.size + 1, 1, none⟩ (.string s3)).setCell ⟨w.heap.size + 1, 2, none⟩ (.int .i64 e2)) w.heap.size (.bool a0) (.string s2) (.int .i64 a2)) := FR3.far (FR3.far (FR3.far (FR3.put X0.out.1 _ _ _) (by omega)) (by omega)) (by omega)
  have K2 : Hid (FR3 ((((((w2.setCell ⟨w.heap.size, 0, none⟩ (.bool a0)).setCell ⟨w.heap.size, 1, none⟩ (.string s2)).setCell ⟨w.heap.size, 2, none⟩ (.int .i64 a2)).setCell ⟨w.heap.size + 1, 0, none⟩ (.bool e0)).setCell ⟨w.heap.size + 1, 1, none⟩ (.string s3)).setCell ⟨w.heap.size + 1, 2, none⟩ (.int .i64 e2)) (w.heap.size + 1) (.bool e0) (.string s3) (.int .i64 e2)) := FR3.put (FR3.far (FR3.far (FR3.far X0.out.2.1 (by omega)) (by omega)) (by omega)) _ _ _
  have K3 : Hid (Below w.heap.size w ((((((w2.setCell ⟨w.heap.size, 0, none⟩ (.bool a0)).setCell ⟨w.heap.size, 1, none⟩ (.string s2)).setCell ⟨w.heap.size, 2, none⟩ (.int .i64 a2)).setCell ⟨w.heap.size + 1, 0, none⟩ (.bool e0)).setCell ⟨w.heap.size + 1, 1, none⟩ (.string s3)).setCell ⟨w.heap.size + 1, 2, none⟩ (.int .i64 e2))) := fset3_below (b := w.heap.size + 1) (fset3_below (b := w.heap.size) X0.out.2.2.1 (Nat.le_refl _)) (by omega)
  clear SC X0
  go_region
  go_wp2_with fail
  (try simp only [Exit.inBlock, Exit.then])
  refine bodyPost_ret (results_rr_tt rfl _ _ w.heap.size (w.heap.size + 1) 28 #[.bool a0, .string s2, .int .i64 a2] #[.bool e0, .string s3, .int .i64 e2] (0, 0) _ rfl rfl (fr3_drew K1.out) (fr3_drew K2.out) Tryz.underlying28 rfl (by kernel_rfl) (by kernel_rfl)) rfl ?_
  refine ⟨s2, s3, ?_, HS, Below.drew K3.out⟩
  rw [hAn, hAe, hBn, hBe, hcc]
  rfl
end Go.Proofs.YtonnlimmjelldaaGreatDoor

namespace Go.Proofs.YtonnlimmjelldaaGreatDoor
open Go Go.RowKit Go.Deep

theorem tdrew (w : World) : Below w.heap.size w w.drew := ⟨rfl, rfl, rfl, Nat.le_refl _, fun _ _ => rfl⟩
/-- Two Decs of our own, and a span in its box. -/
def BS (w wx : World) (bp : Nat) (vm vl vh x : Int) (cb : Bool) : Prop :=
  Below w.heap.size w wx ∧ FR3 wx w.heap.size (.bool false) (.string ⟨#[]⟩) (.int .i64 0) ∧ FR3 wx (w.heap.size + 1) (.bool false) (.string ⟨#[]⟩) (.int .i64 0) ∧ R5 wx bp (.int .u64 vm) (.int .u64 vl) (.int .u64 vh) (.int .i64 x) (.bool cb)
theorem BS.on {w wx wy : World} {bp : Nat} {vm vl vh x : Int} {cb : Bool} (h : BS w wx bp vm vl vh x cb) (b : Below wx.heap.size wx wy) : BS w wy bp vm vl vh x cb :=
  ⟨below_on h.1 b, h.2.1.below b h.2.1.lt, h.2.2.1.below b h.2.2.1.lt, h.2.2.2.on b⟩
theorem BS.flat {w wx : World} {bp : Nat} {vm vl vh x : Int} {cb : Bool} (h : BS w wx bp vm vl vh x cb) :
    wx.cell? ⟨bp, 1, none⟩ = some (.int .u64 vl) ∧ wx.cell? ⟨bp, 2, none⟩ = some (.int .u64 vh) ∧ wx.cell? ⟨bp, 3, none⟩ = some (.int .i64 x) ∧ wx.cell? ⟨bp, 4, none⟩ = some (.bool cb) :=
  ⟨h.2.2.2.cells.1.2.1, h.2.2.2.cells.1.2.2.1, h.2.2.2.cells.1.2.2.2.1, h.2.2.2.cells.1.2.2.2.2⟩
theorem BS.all {w wx : World} {bp : Nat} {vm vl vh x : Int} {cb : Bool} (h : BS w wx bp vm vl vh x cb) :
    (wx.cell? ⟨w.heap.size, 0, none⟩ = some (.bool false) ∧ wx.cell? ⟨w.heap.size, 1, none⟩ = some (.string ⟨#[]⟩) ∧ wx.cell? ⟨w.heap.size, 2, none⟩ = some (.int .i64 0)) ∧
    (wx.frozen? ⟨w.heap.size, 0, none⟩ = false ∧ wx.frozen? ⟨w.heap.size, 1, none⟩ = false ∧ wx.frozen? ⟨w.heap.size, 2, none⟩ = false) ∧
    (wx.cell? ⟨w.heap.size + 1, 0, none⟩ = some (.bool false) ∧ wx.cell? ⟨w.heap.size + 1, 1, none⟩ = some (.string ⟨#[]⟩) ∧ wx.cell? ⟨w.heap.size + 1, 2, none⟩ = some (.int .i64 0)) ∧
    (wx.frozen? ⟨w.heap.size + 1, 0, none⟩ = false ∧ wx.frozen? ⟨w.heap.size + 1, 1, none⟩ = false ∧ wx.frozen? ⟨w.heap.size + 1, 2, none⟩ = false) :=
  ⟨h.2.1.cells.1, h.2.1.cells.2, h.2.2.1.cells.1, h.2.2.1.cells.2⟩
theorem BS.put {w wx : World} {bp : Nat} {vm vl vh x : Int} {cb : Bool} (h : BS w wx bp vm vl vh x cb) (u0 u1 u2 v0 v1 v2 : Value) :
    FR3 ((((((wx.setCell ⟨w.heap.size, 0, none⟩ u0).setCell ⟨w.heap.size, 1, none⟩ u1).setCell ⟨w.heap.size, 2, none⟩ u2).setCell ⟨w.heap.size + 1, 0, none⟩ v0).setCell ⟨w.heap.size + 1, 1, none⟩ v1).setCell ⟨w.heap.size + 1, 2, none⟩ v2) w.heap.size u0 u1 u2 ∧
    FR3 ((((((wx.setCell ⟨w.heap.size, 0, none⟩ u0).setCell ⟨w.heap.size, 1, none⟩ u1).setCell ⟨w.heap.size, 2, none⟩ u2).setCell ⟨w.heap.size + 1, 0, none⟩ v0).setCell ⟨w.heap.size + 1, 1, none⟩ v1).setCell ⟨w.heap.size + 1, 2, none⟩ v2) (w.heap.size + 1) v0 v1 v2 ∧
    Below w.heap.size w ((((((wx.setCell ⟨w.heap.size, 0, none⟩ u0).setCell ⟨w.heap.size, 1, none⟩ u1).setCell ⟨w.heap.size, 2, none⟩ u2).setCell ⟨w.heap.size + 1, 0, none⟩ v0).setCell ⟨w.heap.size + 1, 1, none⟩ v1).setCell ⟨w.heap.size + 1, 2, none⟩ v2) := by
  refine ⟨?_, ?_, fset3_below (fset3_below h.1 (Nat.le_refl _)) (Nat.le_succ _)⟩
  · exact (((h.2.1.put u0 u1 u2).far (by omega)).far (by omega)).far (by omega)
  · exact ((((h.2.2.1.far (by omega)).far (by omega)).far (by omega)).put v0 v1 v2)
theorem BS.st1 {w wx : World} {bp : Nat} {vm vl vh x : Int} {cb : Bool} {u0 u1 u2 : Value} (h : BS w wx bp vm vl vh x cb) (n : w.heap.size ≠ bp) : (((wx.setCell ⟨w.heap.size, 0, none⟩ u0).setCell ⟨w.heap.size, 1, none⟩ u1).setCell ⟨w.heap.size, 2, none⟩ u2).cell? ⟨bp, 1, none⟩ = some (.int .u64 vl) ∧ (((wx.setCell ⟨w.heap.size, 0, none⟩ u0).setCell ⟨w.heap.size, 1, none⟩ u1).setCell ⟨w.heap.size, 2, none⟩ u2).cell? ⟨bp, 2, none⟩ = some (.int .u64 vh) ∧ (((wx.setCell ⟨w.heap.size, 0, none⟩ u0).setCell ⟨w.heap.size, 1, none⟩ u1).setCell ⟨w.heap.size, 2, none⟩ u2).cell? ⟨bp, 3, none⟩ = some (.int .i64 x) ∧ (((wx.setCell ⟨w.heap.size, 0, none⟩ u0).setCell ⟨w.heap.size, 1, none⟩ u1).setCell ⟨w.heap.size, 2, none⟩ u2).cell? ⟨bp, 4, none⟩ = some (.bool cb) := by
  have R := ((h.2.2.2.far (o := 0) (v := u0) n).far (o := 1) (v := u1) n).far (o := 2) (v := u2) n
  exact ⟨R.cells.1.2.1, R.cells.1.2.2.1, R.cells.1.2.2.2.1, R.cells.1.2.2.2.2⟩
theorem BS.st2 {w wx : World} {bp : Nat} {vm vl vh x : Int} {cb : Bool} {u0 u1 u2 v0 v1 v2 : Value} (h : BS w wx bp vm vl vh x cb) (n : w.heap.size ≠ bp) (m : w.heap.size + 1 ≠ bp) : ((((((wx.setCell ⟨w.heap.size, 0, none⟩ u0).setCell ⟨w.heap.size, 1, none⟩ u1).setCell ⟨w.heap.size, 2, none⟩ u2).setCell ⟨w.heap.size + 1, 0, none⟩ v0).setCell ⟨w.heap.size + 1, 1, none⟩ v1).setCell ⟨w.heap.size + 1, 2, none⟩ v2).cell? ⟨bp, 1, none⟩ = some (.int .u64 vl) ∧ ((((((wx.setCell ⟨w.heap.size, 0, none⟩ u0).setCell ⟨w.heap.size, 1, none⟩ u1).setCell ⟨w.heap.size, 2, none⟩ u2).setCell ⟨w.heap.size + 1, 0, none⟩ v0).setCell ⟨w.heap.size + 1, 1, none⟩ v1).setCell ⟨w.heap.size + 1, 2, none⟩ v2).cell? ⟨bp, 2, none⟩ = some (.int .u64 vh) ∧ ((((((wx.setCell ⟨w.heap.size, 0, none⟩ u0).setCell ⟨w.heap.size, 1, none⟩ u1).setCell ⟨w.heap.size, 2, none⟩ u2).setCell ⟨w.heap.size + 1, 0, none⟩ v0).setCell ⟨w.heap.size + 1, 1, none⟩ v1).setCell ⟨w.heap.size + 1, 2, none⟩ v2).cell? ⟨bp, 3, none⟩ = some (.int .i64 x) ∧ ((((((wx.setCell ⟨w.heap.size, 0, none⟩ u0).setCell ⟨w.heap.size, 1, none⟩ u1).setCell ⟨w.heap.size, 2, none⟩ u2).setCell ⟨w.heap.size + 1, 0, none⟩ v0).setCell ⟨w.heap.size + 1, 1, none⟩ v1).setCell ⟨w.heap.size + 1, 2, none⟩ v2).cell? ⟨bp, 4, none⟩ = some (.bool cb) := by
  have R := ((((((h.2.2.2.far (o := 0) (v := u0) n).far (o := 1) (v := u1) n).far (o := 2) (v := u2) n).far (o := 0) (v := v0) m).far (o := 1) (v := v1) m).far (o := 2) (v := v2) m)
  exact ⟨R.cells.1.2.1, R.cells.1.2.2.1, R.cells.1.2.2.2.1, R.cells.1.2.2.2.2⟩
theorem bs_new (w : World) : ∃ wA, wA = (w.alloc (.cells #[.bool false, .string ⟨#[]⟩, .int .i64 0] 28)).alloc (.cells #[.bool false, .string ⟨#[]⟩, .int .i64 0] 28) ∧ Below w.heap.size w wA ∧ FR3 wA w.heap.size (.bool false) (.string ⟨#[]⟩) (.int .i64 0) ∧ FR3 wA (w.heap.size + 1) (.bool false) (.string ⟨#[]⟩) (.int .i64 0) := by
  refine ⟨_, rfl, ?_, ?_, ?_⟩
  · exact (alloc_b w _).trans ((alloc_b _ _).mono (alloc_b w _).size)
  · have F := FR3.new w (.bool false) (.string ⟨#[]⟩) (.int .i64 0)
    exact F.below (alloc_b _ _) F.lt
  · have F2 := FR3.new (w.alloc (.cells #[.bool false, .string ⟨#[]⟩, .int .i64 0] 28)) (.bool false) (.string ⟨#[]⟩) (.int .i64 0)
    rw [World.size_alloc] at F2
    exact F2

set_option maxRecDepth 100000 in
set_option maxHeartbeats 4000000 in
theorem xbnd_inf (d : Int) (w : World) (h0 : 0 ≤ d) (h1 : d < 18446744073709551616) (hf : ¬ d % 9223372036854775808 < 9218868437227405312) :
    Calls Tryz.prog 15 #[.int .u64 d] w fun e w' => e = .returned (.tuple #[.agg #[.bool false, .string ⟨#[]⟩, .int .i64 0], .agg #[.bool false, .string ⟨#[]⟩, .int .i64 0], .bool false, .int .i64 5]) ∧ Below w.heap.size w w' := by
  have FN := hid (fun wx : World => xfin_any d wx h0 h1)
  rw [decide_eq_false hf] at FN
  obtain ⟨wA, hA, HB, F1, F2⟩ := bs_new w
  subst hA
  have H1 := hid F1
  have H2 := hid F2
  have HB := hid HB
  clear F1 F2 h0 h1 hf
  go_enter Tryz.func15, Tryz.ntmps15
  go_wp2_with fail
  refine (FN.out _).mono ?_
  rintro e wz ⟨rfl, hz⟩
  rw [hz]
  clear hz
  go_wp2_with fail
  (try simp only [Exit.inBlock, Exit.then])
  refine bodyPost_ret (results_rr_tt rfl _ _ w.heap.size (w.heap.size + 1) 28 _ _ (0, 0) _ rfl rfl H1.out H2.out Tryz.underlying28 rfl (by kernel_rfl) (by kernel_rfl)) rfl ?_
  exact ⟨rfl, HB.out⟩
set_option maxRecDepth 100000 in
set_option maxHeartbeats 8000000 in
theorem xbnd_pos (d a : Int) (w : World) (h0 : 0 ≤ d) (h1 : d < 18446744073709551616) (ha : d % 9223372036854775808 = a) (a0 : 0 < a) (a1 : a < 9218868437227405312) :
    Calls Tryz.prog 15 #[.int .u64 d] w fun e w' => BoTold a w e w' := by
  have FN := hid (fun wx : World => xfin_any d wx h0 h1)
  have AB := hid (fun wx => xabs_any d wx h0 h1)
  have SP := hid (fun wx => xspan_any d a wx h0 h1 ha a0 a1)
  rw [ha, decide_eq_true a1] at FN
  rw [ha] at AB
  obtain ⟨m0, m1, -, x1⟩ := Tn.man_bd a0 a1
  have lp : 0 < Tn.lo a ∧ Tn.lo a < 18446744073709551616 ∧ (Ie.ex a = 0 → Tn.lo a % 2 = 0) := by
    unfold Tn.lo
    split <;> omega
  have az : (a == 0) = false := beq_eq_false_iff_ne.2 (by omega)
  obtain ⟨x, hx⟩ : ∃ x, x = (Ie.ex a : Int) - 1076 := ⟨_, rfl⟩
  have xe : (x + 1076).toNat = Ie.ex a := by omega
  have E1 := hid (fun wx => xexact_any (Tn.lo a) x (Sh.A a) wx lp.1 lp.2.1 (by omega) (by omega) (by rw [xe]; exact Tn.lo_A a0) (fun c => lp.2.2 (by omega)))
  have E2 := hid (fun wx => xexact_any (4 * Ie.man a + 2) x (Sh.B a) wx (by omega) (by omega) (by omega) (by omega) (by rw [xe]; exact Tn.hi_B a) (fun c => by omega))
  unfold Tn.spv at SP
  rw [← hx] at SP
  unfold NoTold at E1 E2
  unfold BoTold
  obtain ⟨wA, hA, HB, F1, F2⟩ := bs_new w
  have H0 := hid (And.intro HB (And.intro F1 F2))
  have HA := hid hA
  generalize Sh.dd (Sh.A a) = DA at *
  generalize Sh.dd (Sh.B a) = DB at *
  generalize decide (a % 2 = 0) = cb at *
  generalize 4 * Ie.man a + 2 = vh at *
  generalize 4 * Ie.man a = vm at *
  generalize Tn.lo a = vl at *
  clear HB F1 F2 h0 h1 ha a0 a1 m0 m1 x1 lp hx xe hA
  go_enter Tryz.func15, Tryz.ntmps15
  go_wp2_with fail
  rw [← HA.out]
  refine (FN.out _).mono ?_
  rintro e wz ⟨rfl, hz⟩
  rw [hz]
  clear hz FN
  go_wp2_with fail
  refine (AB.out _).mono ?_
  rintro e wz ⟨rfl, hz⟩
  rw [hz]
  clear hz AB
  go_wp2_with fail
  refine (SP.out _).mono ?_
  rintro e w1 ⟨rfl, b1⟩
  have b2 := alloc_b w1 (.cells #[.int .u64 vm, .int .u64 vl, .int .u64 vh, .int .i64 x, .bool cb] 56)
  have b12 := b1.trans (b2.mono b1.size)
  have T0 : Hid (BS w (w1.alloc (.cells #[.int .u64 vm, .int .u64 vl, .int .u64 vh, .int .i64 x, .bool cb] 56)) w1.heap.size vm vl vh x cb) := ⟨below_on H0.out.1 b12, H0.out.2.1.below b12 H0.out.2.1.lt, H0.out.2.2.below b12 H0.out.2.2.lt, R5.new w1 _ _ _ _ _⟩
  have NB : Hid (w.heap.size ≠ w1.heap.size ∧ w.heap.size + 1 ≠ w1.heap.size) := by
    have q := H0.out.2.2.lt
    have q2 := b1.size
    exact ⟨by omega, by omega⟩
  clear b1 b2 b12 SP H0 HA
  go_upto_region 7 with fail
  generalize w1.alloc (.cells #[.int .u64 vm, .int .u64 vl, .int .u64 vh, .int .i64 x, .bool cb] 56) = w2 at *
  generalize w1.heap.size = bp at *
  have SD := hid (T0.out.on (tdrew w2))
  have cs := T0.out.flat
  obtain ⟨y1, y2, y3, y4⟩ := cs
  go_region_held3 (fun w' => w'.cell? ⟨bp, 1, none⟩ = some (.int .u64 vl) ∧ w'.cell? ⟨bp, 2, none⟩ = some (.int .u64 vh) ∧ w'.cell? ⟨bp, 3, none⟩ = some (.int .i64 x) ∧ w'.cell? ⟨bp, 4, none⟩ = some (.bool cb)) (first | (with_reducible exact BS.st2 T2.out NB.out.1 NB.out.2) | (with_reducible exact BS.st1 T2.out NB.out.1) | (with_reducible exact T2.out.flat) | (with_reducible exact T1.out.flat) | (with_reducible exact SD.out.flat)) (first
    | (go_at_call 34; (first
        | (with_reducible refine (E1.out _).mono ?_; rintro en w3 ⟨t2, rfl, h2, b3⟩; have T1 := hid (SD.out.on b3); have S2 := hid h2; clear h2 b3)
        | (with_reducible refine (E2.out _).mono ?_; rintro en w4 ⟨t3, rfl, h3, b4⟩; have T2 := hid (T1.out.on b4); have S3 := hid h3; obtain ⟨⟨c0, c1, c2⟩, ⟨f0, f1, f2⟩, ⟨d0, d1, d2⟩, g0, g1, g2⟩ := BS.all T2.out; clear h3 b4))))
  all_goals (
    go_wp2_with fail
    (try simp only [Exit.inBlock, Exit.then])
    have PU := T2.out.put (.bool false) (.string t2) (.int .i64 DA.e) (.bool false) (.string t3) (.int .i64 DB.e)
    refine bodyPost_ret (results_rr_tt rfl _ _ w.heap.size (w.heap.size + 1) 28 _ _ (0, 0) _ rfl rfl PU.1 PU.2.1 Tryz.underlying28 rfl (by kernel_rfl) (by kernel_rfl)) rfl ?_
    exact ⟨t2, t3, rfl, ⟨S2.out.out, S3.out.out⟩, PU.2.2⟩)
set_option maxRecDepth 100000 in
set_option maxHeartbeats 4000000 in
theorem xbnd_zero (d : Int) (w : World) (h0 : 0 ≤ d) (h1 : d < 18446744073709551616) (ha : d % 9223372036854775808 = 0) :
    Calls Tryz.prog 15 #[.int .u64 d] w fun e w' => BoTold 0 w e w' := by
  have FN := hid (fun wx : World => xfin_any d wx h0 h1)
  have AB := hid (fun wx => xabs_any d wx h0 h1)
  rw [ha, decide_eq_true (by decide)] at FN
  rw [ha] at AB
  have E2 := hid (fun wx => xexact_any 1 (-1075) (Sh.B 0) wx (by decide) (by decide) (by decide) (by decide) (by rw [Sh.B, Ie.md_zero, show ((-1075 : Int) + 1076).toNat = 1 from rfl, Int.one_mul, Int.pow_one, Int.one_mul]) (fun c => by omega))
  have DA : Sh.dd (Sh.A 0) = ⟨false, [48], 0⟩ := by rw [Sh.A, if_pos rfl]; exact Sh.dd_zero
  unfold NoTold at E2
  have K : Hid (∀ (t : ByteArray) (w' : World), Str t (Sh.dd (Sh.B 0)).ds → Below w.heap.size w w' → BoTold 0 w (.returned (.tuple #[.agg #[.bool false, .string ⟨#[48]⟩, .int .i64 0], .agg #[.bool false, .string t, .int .i64 (Sh.dd (Sh.B 0)).e], .bool true, .int .i64 0])) w') := fun t w' h hb => by
    refine ⟨⟨#[48]⟩, t, ?_, ⟨?_, h⟩, hb⟩
    · rw [DA]; rfl
    · rw [DA]; rfl
  obtain ⟨wA, hA, HB, F1, F2⟩ := bs_new w
  have H0 := hid (And.intro HB (And.intro F1 F2))
  have HA := hid hA
  generalize Sh.dd (Sh.B 0) = DB at *
  clear HB F1 F2 h0 h1 ha hA DA
  go_enter Tryz.func15, Tryz.ntmps15
  go_wp2_with fail
  rw [← HA.out]
  refine (FN.out _).mono ?_
  rintro e wz ⟨rfl, hz⟩
  rw [hz]
  clear hz FN
  go_wp2_with fail
  refine (AB.out _).mono ?_
  rintro e wz ⟨rfl, hz⟩
  rw [hz]
  clear hz AB
  go_wp2_with fail
  refine (E2.out _).mono ?_
  rintro en w3 ⟨t3, rfl, h3, b3⟩
  have S3 := hid h3
  have B3 := hid (below_on H0.out.1 b3)
  have Z1 := hid (H0.out.2.1.below b3 H0.out.2.1.lt)
  have Z2 := hid (H0.out.2.2.below b3 H0.out.2.2.lt)
  obtain ⟨⟨c0, c1, c2⟩, f0, f1, f2⟩ := Z1.out.cells
  obtain ⟨⟨d0, d1, d2⟩, g0, g1, g2⟩ := Z2.out.cells
  clear h3 b3 H0 HA E2
  go_wp2_with fail
  (try simp only [Exit.inBlock, Exit.then])
  refine bodyPost_ret (results_rr_tt rfl _ _ w.heap.size (w.heap.size + 1) 28 _ _ (0, 0) _ rfl rfl ((((Z1.out.put (.bool false) (.string ⟨#[48]⟩) (.int .i64 0)).far (by omega)).far (by omega)).far (by omega)) ((((Z2.out.far (by omega)).far (by omega)).far (by omega)).put (.bool false) (.string t3) (.int .i64 DB.e)) Tryz.underlying28 rfl (by kernel_rfl) (by kernel_rfl)) rfl ?_
  exact K.out t3 _ S3.out.out (fset3_below (fset3_below B3.out (Nat.le_refl _)) (Nat.le_succ _))
theorem xbnd_any (d a : Int) (w : World) (h0 : 0 ≤ d) (h1 : d < 18446744073709551616) (ha : d % 9223372036854775808 = a) (a1 : a < 9218868437227405312) :
    Calls Tryz.prog 15 #[.int .u64 d] w fun e w' => BoTold a w e w' := by
  rcases (show a = 0 ∨ 0 < a by omega) with c | c
  · subst c
    exact xbnd_zero d w h0 h1 ha
  · exact xbnd_pos d a w h0 h1 ha c a1
end Go.Proofs.YtonnlimmjelldaaGreatDoor

namespace Go.Proofs.YtonnlimmjelldaaGreatDoor
open Go Go.RowKit Go.Deep

theorem Tn.nrm_sg (neg : Bool) (xs : List Int) (e : Int) : (Sc.nrm neg xs e).neg = neg := by
  unfold Sc.nrm
  split <;> rfl
theorem Tn.bd_len {U : Int} (h : 0 ≤ U) (hb : U < 10 ^ 1500) : (Sh.dd U).ds.length ≤ 3000 := by
  rcases (show U = 0 ∨ 0 < U by omega) with c | c
  · rw [c, Sh.dd_zero]; simp
  · obtain ⟨p1, p2, p3⟩ := Sh.place c
    have q := Fx.p_lt (Int.lt_of_le_of_lt p1 hb)
    have lo := (Sh.dd_is h).1.lo
    have hp : Sh.pl U = (Sh.dd U).e + ((Sh.dd U).ds.length : Int) := rfl
    omega
theorem Tn.lenA {a : Int} (h0 : 0 ≤ a) (h1 : a < 9218868437227405312) : (Sh.dd (Sh.A a)).ds.length ≤ 3000 := by
  refine Tn.bd_len (Sh.A_nn h0) ?_
  unfold Sh.A
  split
  · exact Int.lt_of_lt_of_le (Fx.p_pos 0) (Fx.p_le (by omega))
  · exact Int.lt_of_lt_of_le (Sh.B_lt (by omega) (by omega)) Sh.p1384
theorem Tn.lenB {a : Int} (h0 : 0 ≤ a) (h1 : a < 9218868437227405312) : (Sh.dd (Sh.B a)).ds.length ≤ 3000 := Tn.bd_len (Sh.B_nn h0) (Int.lt_of_lt_of_le (Sh.B_lt h0 h1) Sh.p1384)
set_option maxRecDepth 100000 in
set_option maxHeartbeats 8000000 in
theorem xhold_any (neg : Bool) (s : ByteArray) (xs : List Int) (e d : Int) (w : World) (h0 : 0 ≤ d) (h1 : d < 18446744073709551616) (hs : Str s xs) (hl : xs.length ≤ 281474976710654) :
    Calls Tryz.prog 16 #[.agg #[.bool neg, .string s, .int .i64 e], .int .u64 d] w fun r w' => HoTold neg xs e d w r w' := by
  have Z := hid (FR3.new w (.bool neg) (.string s) (.int .i64 e))
  have ZB := hid (alloc_b w (.cells #[.bool neg, .string s, .int .i64 e] 28))
  have NO := hid (fun wx => rnorm_any neg s xs e wx hs (by omega))
  unfold NormTold decV at NO
  by_cases hd : Sc.IsDec xs e
  · have ne : errOf xs e = 0 := by unfold errOf; rw [if_pos hd]
    have nd : nmd neg xs e = Sc.nrm neg xs e := by unfold nmd; rw [if_pos hd]
    rw [ne, nd] at NO
    have nmX := Sh.nm_nrm (neg := neg) hd hl
    have ng := Tn.nrm_sg neg xs e
    by_cases hf : d % 9223372036854775808 < 9218868437227405312
    · obtain ⟨a, ha⟩ : ∃ a, d % 9223372036854775808 = a := ⟨_, rfl⟩
      rw [ha] at hf
      have a0 : 0 ≤ a := by omega
      have BO := hid (fun wx => xbnd_any d a wx h0 h1 ha hf)
      have fn : Ie.fnt d = true := by rw [Sh.fnt_iff, ha]; exact decide_eq_true hf
      have NA := Sh.nmA a0 hf
      have NB := Sh.nmB a0 hf
      have nA : (Sh.dd (Sh.A a)).neg = false := (Sh.dd_is (Sh.A_nn a0)).1.neg
      have nB : (Sh.dd (Sh.B a)).neg = false := (Sh.dd_is (Int.le_trans (Sh.V_nn a0) (Int.le_of_lt Sh.V_B))).1.neg
      have K : Hid (∀ w' b, Below w.heap.size w w' → b = ((neg == decide (9223372036854775808 ≤ d)) && Sh.hD (Sh.dd (Sh.A a)) (Sh.dd (Sh.B a)) ⟨false, (Sc.nrm neg xs e).ds, (Sc.nrm neg xs e).e⟩ (decide (a % 2 = 0))) → HoTold neg xs e d w (.returned (.tuple #[.bool b, .int .i64 0])) w') := fun w' b hb hbb => by
        refine ⟨?_, hb⟩
        rw [Sh.hoB, if_pos ⟨hd, fn⟩, Sh.hoE, if_pos hd, if_pos fn, ha, hbb]
        rfl
      have lA := Tn.lenA a0 hf
      have lB := Tn.lenB a0 hf
      have lX : (Sc.nrm neg xs e).ds.length ≤ 281474976710655 := by have := Sc.nrm_len neg xs e; omega
      have CA := hid (fun (t u : ByteArray) (wx : World) (ht : Str t (Sh.dd (Sh.A a)).ds) (hu : Str u (Sc.nrm neg xs e).ds) => rcmp_any false false t u _ _ (Sh.dd (Sh.A a)).e (Sc.nrm neg xs e).e wx ht hu (by omega) lX)
      have CB := hid (fun (t u : ByteArray) (wx : World) (ht : Str t (Sh.dd (Sh.B a)).ds) (hu : Str u (Sc.nrm neg xs e).ds) => rcmp_any false false u t _ _ (Sc.nrm neg xs e).e (Sh.dd (Sh.B a)).e wx hu ht lX (by omega))
      have qA := Tn.cmpE_nm NA nmX
      have qB := Tn.cmpE_nm nmX NB
      rw [nA] at qA
      rw [nB] at qB
      simp only at qA qB
      rw [qA] at CA
      rw [qB] at CB
      have HY := hid (Tn.hd_yes (Sh.dd (Sh.A a)) (Sh.dd (Sh.B a)) ⟨false, (Sc.nrm neg xs e).ds, (Sc.nrm neg xs e).e⟩)
      have HN := hid (Tn.hd_no (Sh.dd (Sh.A a)) (Sh.dd (Sh.B a)) ⟨false, (Sc.nrm neg xs e).ds, (Sc.nrm neg xs e).e⟩)
      unfold BoTold at BO
      unfold DecIs decV at NO
      unfold decV at CA CB
      rw [ng] at NO
      generalize Sc.cmpD (Sh.dd (Sh.A a)) ⟨false, (Sc.nrm neg xs e).ds, (Sc.nrm neg xs e).e⟩ = p1 at *
      generalize Sc.cmpD ⟨false, (Sc.nrm neg xs e).ds, (Sc.nrm neg xs e).e⟩ (Sh.dd (Sh.B a)) = p2 at *
      generalize Sh.hD (Sh.dd (Sh.A a)) (Sh.dd (Sh.B a)) ⟨false, (Sc.nrm neg xs e).ds, (Sc.nrm neg xs e).e⟩ = hDf at *
      generalize Sh.dd (Sh.A a) = DA at *
      generalize Sh.dd (Sh.B a) = DB at *
      generalize Sc.nrm neg xs e = X at *
      clear ne nd nmX ng fn NA NB nA nB lA lB lX qA qB hd hs hl h0 h1 hf ha a0
      go_enter Tryz.func16, Tryz.ntmps16
      go_wp2_with fail
      with_reducible refine (NO.out _).mono ?_
      rintro r w1 ⟨v, rfl, ⟨t, rfl, ht⟩, b1⟩
      have B1 := hid (below_on ZB.out b1)
      have M1 := hid (FR3.new w1 (.bool neg) (.string t) (.int .i64 X.e))
      have B1' := hid (below_on B1.out (alloc_b w1 (.cells #[.bool neg, .string t, .int .i64 X.e] 28)))
      have HT := hid ht
      clear b1 ht NO Z ZB
      go_wp2_with fail
      with_reducible refine (BO.out _).mono ?_
      rintro r w2 ⟨s2, s3, rfl, hS, b2⟩
      have M2 := M1.out.below b2 M1.out.lt
      have B2 := below_on B1'.out b2
      have bL := alloc_b w2 (.cells #[.bool false, .string s2, .int .i64 DA.e] 28)
      have bH := alloc_b (w2.alloc (.cells #[.bool false, .string s2, .int .i64 DA.e] 28)) (.cells #[.bool false, .string s3, .int .i64 DB.e] 28)
      have L2 := FR3.new w2 (.bool false) (.string s2) (.int .i64 DA.e)
      have H3 := FR3.new (w2.alloc (.cells #[.bool false, .string s2, .int .i64 DA.e] 28)) (.bool false) (.string s3) (.int .i64 DB.e)
      rw [World.size_alloc] at H3
      have bLH := bL.trans (bH.mono bL.size)
      have ST : Hid (Below w.heap.size w ((w2.alloc (.cells #[.bool false, .string s2, .int .i64 DA.e] 28)).alloc (.cells #[.bool false, .string s3, .int .i64 DB.e] 28)) ∧ FR3 ((w2.alloc (.cells #[.bool false, .string s2, .int .i64 DA.e] 28)).alloc (.cells #[.bool false, .string s3, .int .i64 DB.e] 28)) w1.heap.size (.bool neg) (.string t) (.int .i64 X.e) ∧ FR3 ((w2.alloc (.cells #[.bool false, .string s2, .int .i64 DA.e] 28)).alloc (.cells #[.bool false, .string s3, .int .i64 DB.e] 28)) w2.heap.size (.bool false) (.string s2) (.int .i64 DA.e) ∧ FR3 ((w2.alloc (.cells #[.bool false, .string s2, .int .i64 DA.e] 28)).alloc (.cells #[.bool false, .string s3, .int .i64 DB.e] 28)) (w2.heap.size + 1) (.bool false) (.string s3) (.int .i64 DB.e)) :=
        ⟨below_on B2 bLH, M2.below bLH M2.lt, L2.below bH L2.lt, H3⟩
      have N1 : Hid (w1.heap.size ≠ w2.heap.size ∧ w1.heap.size ≠ w2.heap.size + 1 ∧ w.heap.size ≤ w1.heap.size) := by
        have := M2.lt
        have := B1.out.size
        exact ⟨by omega, by omega, by omega⟩
      have S2 := hid hS
      clear M2 B2 bL bH L2 H3 bLH hS b2 BO M1 B1 B1'
      go_upto_region 7 with fail
      generalize (w2.alloc (.cells #[.bool false, .string s2, .int .i64 DA.e] 28)).alloc (.cells #[.bool false, .string s3, .int .i64 DB.e] 28) = w3 at *
      generalize w1.heap.size = mb at *
      generalize w2.heap.size = lb at *
      obtain ⟨⟨c0, c1, c2⟩, f0, f1, f2⟩ := ST.out.2.1.cells
      by_cases hsg : neg = decide (9223372036854775808 ≤ d)
      · have K2 : Hid (∀ w' b, Below w.heap.size w w' → b = hDf (decide (a % 2 = 0)) → HoTold neg xs e d w (.returned (.tuple #[.bool b, .int .i64 0])) w') := fun w' b hb hbb => K.out w' b hb (by rw [hbb, ← hsg]; simp)
        have hq : (neg == decide (9223372036854775808 ≤ d)) = true := beq_iff_eq.2 hsg
        have M4 : Hid (FR3 (w3.setCell ⟨mb, 0, none⟩ (.bool false)) mb (.bool false) (.string t) (.int .i64 X.e)) := fset1 (o := 0) (v := .bool false) (c' := #[.bool false, .string t, .int .i64 X.e]) ST.out.2.1 (by simp [Array.setIfInBounds])
        have L4 := hid (ST.out.2.2.1.far (o := 0) (v := .bool false) N1.out.1)
        have H4 := hid (ST.out.2.2.2.far (o := 0) (v := .bool false) N1.out.2.1)
        have B4 : Hid (Below w.heap.size w (w3.setCell ⟨mb, 0, none⟩ (.bool false))) := ST.out.1.setCell (p := ⟨mb, 0, none⟩) N1.out.2.2 _
        obtain ⟨⟨l0, l1, l2⟩, -⟩ := L4.out.cells
        obtain ⟨⟨m0, m1, m2⟩, -⟩ := M4.out.cells
        have C1 := hid (CA.out s2 t (w3.setCell ⟨mb, 0, none⟩ (.bool false)) S2.out.out.1 HT.out)
        clear K hsg CA ST N1
        go_wp2_with fail
        with_reducible refine C1.out.mono ?_
        rintro r w5 ⟨rfl, b5⟩
        have M5 := hid (M4.out.below b5 M4.out.lt)
        have H5 := hid (H4.out.below b5 H4.out.lt)
        have B5 := hid (below_on B4.out b5)
        obtain ⟨⟨n0, n1, n2⟩, -⟩ := M5.out.cells
        obtain ⟨⟨h0, h1, h2⟩, -⟩ := H5.out.cells
        have C2 := hid (CB.out s3 t w5 S2.out.out.2 HT.out)
        clear b5 M4 H4 L4 B4 C1 CB c0 c1 c2 f0 f1 f2 l0 l1 l2 m0 m1 m2
        go_wp2_with fail
        with_reducible refine C2.out.mono ?_
        rintro r w6 ⟨rfl, b6⟩
        have B6 := hid (below_on B5.out b6)
        clear b6 B5 M5 H5 C2 n0 n1 n2 h0 h1 h2
        by_cases hc : a % 2 = 0
        · have K3 := hid (fun b (hb : b = (decide (p1 ≤ 0) && decide (p2 ≤ 0))) => K2.out w6 b B6.out (by rw [hb, decide_eq_true hc, HY.out]))
          rw [decide_eq_true hc]
          clear K2 HY HN hc
          by_cases g1 : p1 ≤ 0
          · go_wp2_with fail
            go_ret2
            exact K3.out _ (by rw [decide_eq_true g1, Bool.true_and])
          · go_wp2_with fail
            go_ret2
            exact K3.out _ (by rw [show decide (p1 ≤ 0) = false from decide_eq_false (by omega), Bool.false_and])
        · have K3 := hid (fun b (hb : b = (decide (p1 < 0) && decide (p2 < 0))) => K2.out w6 b B6.out (by rw [hb, decide_eq_false hc, HN.out]))
          rw [decide_eq_false hc]
          clear K2 HY HN hc
          by_cases g1 : p1 < 0
          · go_wp2_with fail
            go_ret2
            exact K3.out _ (by rw [decide_eq_true g1, Bool.true_and])
          · go_wp2_with fail
            go_ret2
            exact K3.out _ (by rw [show decide (p1 < 0) = false from decide_eq_false (by omega), Bool.false_and])
      · have K2 : Hid (∀ w', Below w.heap.size w w' → HoTold neg xs e d w (.returned (.tuple #[.bool false, .int .i64 0])) w') := fun w' hb => K.out w' false hb (by rw [show (neg == decide (9223372036854775808 ≤ d)) = false from beq_eq_false_iff_ne.2 hsg, Bool.false_and])
        have hq : (neg == decide (9223372036854775808 ≤ d)) = false := beq_eq_false_iff_ne.2 hsg
        have BB := hid ST.out.1
        clear K hsg
        go_wp2_with fail
        go_ret2
        exact K2.out _ BB.out
    · have BO := hid (fun wx => xbnd_inf d wx h0 h1 hf)
      have fn : ¬ Ie.fnt d = true := by rw [Sh.fnt_iff, decide_eq_true_iff]; exact hf
      have K : Hid (∀ w', Below w.heap.size w w' → HoTold neg xs e d w (.returned (.tuple #[.bool false, .int .i64 5])) w') := fun w' hb => by
        refine ⟨?_, hb⟩
        rw [Sh.hoB, if_neg (fun c => fn c.2), Sh.hoE, if_pos hd, if_neg fn]
      unfold DecIs decV at NO
      rw [ng] at NO
      generalize Sc.nrm neg xs e = X at *
      clear ne nd nmX ng fn hd hs hl h0 h1 hf
      go_enter Tryz.func16, Tryz.ntmps16
      go_wp2_with fail
      with_reducible refine (NO.out _).mono ?_
      rintro r w1 ⟨v, rfl, ⟨t, rfl, ht⟩, b1⟩
      have B1 := hid (below_on (below_on ZB.out b1) (alloc_b w1 (.cells #[.bool neg, .string t, .int .i64 X.e] 28)))
      clear b1 ht NO Z ZB
      go_wp2_with fail
      with_reducible refine (BO.out _).mono ?_
      rintro r w2 ⟨rfl, b2⟩
      have B2 := hid (below_on (below_on (below_on B1.out b2) (alloc_b w2 (.cells #[.bool false, .string ⟨#[]⟩, .int .i64 0] 28))) (alloc_b _ (.cells #[.bool false, .string ⟨#[]⟩, .int .i64 0] 28)))
      clear b2 B1 BO
      go_wp2_with fail
      go_ret2
      exact K.out _ B2.out
  · have ne : errOf xs e = 80 := by unfold errOf; rw [if_neg hd]
    rw [ne] at NO
    have K : Hid (∀ w', Below w.heap.size w w' → HoTold neg xs e d w (.returned (.tuple #[.bool false, .int .i64 80])) w') := fun w' hb => by
      refine ⟨?_, hb⟩
      rw [Sh.hoB, if_neg (fun c => hd c.1), Sh.hoE, if_neg hd]
    clear ne hd h0 h1 hs hl
    go_enter Tryz.func16, Tryz.ntmps16
    go_wp2_with fail
    with_reducible refine (NO.out _).mono ?_
    rintro r w1 ⟨v, rfl, ⟨t, rfl, ht⟩, b1⟩
    have B1 := hid (below_on (ZB.out.trans (b1.mono ZB.out.size)) (alloc_b w1 (.cells #[.bool (nmd neg xs e).neg, .string t, .int .i64 (nmd neg xs e).e] 28)))
    clear b1 ht NO
    unfold decV
    go_wp2_with fail
    go_ret2
    exact K.out _ B1.out
end Go.Proofs.YtonnlimmjelldaaGreatDoor

namespace Go.Proofs.YtonnlimmjelldaaGreatDoor
open Go Go.RowKit Go.Deep

set_option maxRecDepth 100000 in
set_option maxHeartbeats 2000000 in
theorem zwi_inf (d n : Int) (w : World) (h0 : 0 ≤ d) (h1 : d < 18446744073709551616) (hf : ¬ d % 9223372036854775808 < 9218868437227405312) :
    Calls Tryz.prog 9 #[.int .u64 d, .int .i64 n] w fun e w' => e = .returned (.tuple #[.agg #[.bool false, .string ⟨#[]⟩, .int .i64 0], .bool false, .int .i64 5]) ∧ Below w.heap.size w w' := by
  have FN := hid (fun wx : World => zfinite_any d wx h0 h1)
  have Z := FR3.new w (.bool false) (.string ⟨#[]⟩) (.int .i64 0)
  have ZB := hid (alloc_b w (.cells #[.bool false, .string ⟨#[]⟩, .int .i64 0] 28))
  rw [Sh.fnt_iff, decide_eq_false hf] at FN
  have HZ := hid Z
  obtain ⟨⟨a0, a1, a2⟩, a3, a4, a5⟩ := Z.cells
  clear Z h0 h1 hf
  go_enter Tryz.func9, Tryz.ntmps9
  go_wp2_with fail
  refine (FN.out _).mono ?_
  rintro e wz ⟨rfl, hz⟩
  subst hz
  go_wp2_with fail
  (try simp only [Exit.inBlock, Exit.then])
  refine bodyPost_ret (results_row_tmp2 rfl _ _ w.heap.size 28 _ (0, 0) _ rfl HZ.out Tryz.underlying28 rfl (by kernel_rfl)) rfl ?_
  exact ⟨rfl, ZB.out⟩

set_option maxRecDepth 100000 in
set_option maxHeartbeats 2000000 in
theorem zwi_arg (d n : Int) (w : World) (h0 : 0 ≤ d) (h1 : d < 18446744073709551616) (hf : d % 9223372036854775808 < 9218868437227405312) (hn : n = 18 ∨ n = 0) :
    Calls Tryz.prog 9 #[.int .u64 d, .int .i64 n] w fun e w' => e = .returned (.tuple #[.agg #[.bool false, .string ⟨#[]⟩, .int .i64 0], .bool false, .int .i64 1]) ∧ Below w.heap.size w w' := by
  have FN := hid (fun wx : World => zfinite_any d wx h0 h1)
  have Z := FR3.new w (.bool false) (.string ⟨#[]⟩) (.int .i64 0)
  have ZB := hid (alloc_b w (.cells #[.bool false, .string ⟨#[]⟩, .int .i64 0] 28))
  rw [Sh.fnt_iff, decide_eq_true hf] at FN
  have HZ := hid Z
  obtain ⟨⟨a0, a1, a2⟩, a3, a4, a5⟩ := Z.cells
  clear Z h0 h1 hf
  rcases hn with rfl | rfl
  all_goals
    go_enter Tryz.func9, Tryz.ntmps9
    go_wp2_with fail
    refine (FN.out _).mono ?_
    rintro e wz ⟨rfl, hz⟩
    subst hz
    go_wp2_with fail
    (try simp only [Exit.inBlock, Exit.then])
    refine bodyPost_ret (results_row_tmp2 rfl _ _ w.heap.size 28 _ (0, 0) _ rfl HZ.out Tryz.underlying28 rfl (by kernel_rfl)) rfl ?_
    exact ⟨rfl, ZB.out⟩
end Go.Proofs.YtonnlimmjelldaaGreatDoor

namespace Go.Proofs.YtonnlimmjelldaaGreatDoor
open Go Go.RowKit Go.Deep

theorem leq_dec (a : Bool) (s : ByteArray) (e : Int) (w : World) : (Op.equalIn 10000 28 (.agg #[.bool a, .string s, .int .i64 e]) (.agg #[.bool a, .string s, .int .i64 e])).run Tryz.prog w = .ok true w := by
  have u3 := Tryz.underlying3
  have a3 := Tryz.isAgg3
  have z3 := Tryz.sizeOf3
  have u4 := Tryz.underlying4
  have a4 := Tryz.isAgg4
  have z4 := Tryz.sizeOf4
  have u9 := Tryz.underlying9
  have a9 := Tryz.isAgg9
  have z9 := Tryz.sizeOf9
  have hS : Tryz.prog.underlying 28 = some (.struct (Tryz.prog.fieldsOf 28)) := by kernel_rfl
  rw [show (10000 : Nat) = 9999 + 1 from rfl, run_equalIn_struct w 9999 28 _ _ hS (by kernel_rfl)]
  simp only [Program.fieldsOf, Tryz.underlying28]
  go_simp

end Go.Proofs.YtonnlimmjelldaaGreatDoor

namespace Go.Proofs.YtonnlimmjelldaaGreatDoor
open Go Go.RowKit Go.Deep

namespace Sh
theorem zD01 : zD 4591870180066957722 = ⟨false, [49], -1⟩ ∧ zR 4591870180066957722 = 0 := by
  have f : Ie.fnt 4591870180066957722 = true := by decide
  refine ⟨?_, by rw [zR, if_pos f]⟩
  rw [zD, if_pos f, show (4591870180066957722 : Int) % 9223372036854775808 = 4591870180066957722 by decide, dgt01, ddt01]
  rfl
theorem zD25 : zD 4612811918334230528 = ⟨false, [50, 53], -1⟩ ∧ zR 4612811918334230528 = 0 := by
  have f : Ie.fnt 4612811918334230528 = true := by decide
  refine ⟨?_, by rw [zR, if_pos f]⟩
  rw [zD, if_pos f, show (4612811918334230528 : Int) % 9223372036854775808 = 4612811918334230528 by decide, dgt25, dd25]
  rfl
theorem wD13 : wD 4599676419421066581 16 = ⟨false, threes, -16⟩ ∧ wB 4599676419421066581 16 = true := by
  rw [wD, wB, wn13]
  exact ⟨ddt13, rfl⟩
theorem hD01 : hD (dd (A 4591870180066957722)) (dd (B 4591870180066957722)) ⟨false, [49], -1⟩ (decide ((4591870180066957722 : Int) % 2 = 0)) = true := by
  have h := hD_in (a := 4591870180066957722) (U := 10 ^ 1074) (by decide) (Int.le_of_lt (Fx.p_pos 1074))
  rw [ddt01, in01] at h
  exact h
theorem nm01 : Nm ⟨false, [49], -1⟩ := by
  have h := bd_room (U := 10 ^ 1074) (Int.le_of_lt (Fx.p_pos 1074)) (by
    refine Int.lt_of_lt_of_le (b := 10 ^ 1075) ?_ (Fx.p_le (by omega))
    rw [Int.pow_succ 10 1074]
    have := Fx.p_pos 1074
    generalize (10 : Int) ^ 1074 = z at *
    omega)
  rw [ddt01] at h
  exact h
end Sh

set_option maxRecDepth 100000 in
theorem zlaid25 (w : World) : Calls Tryz.prog 27 #[.string ⟨#[50, 53]⟩, .int .i64 1] w fun e w' => e = .returned (.string ⟨#[50, 46, 53]⟩) ∧ Below w.heap.size w w' := by
  have e1 : (⟨#[50, 53]⟩ : ByteArray).size = 2 := rfl
  have e2 : (⟨#[50, 53]⟩ : ByteArray).extract 0 1 ++ ⟨#[46]⟩ ++ (⟨#[50, 53]⟩ : ByteArray).extract 1 2 = ⟨#[50, 46, 53]⟩ := by decide +kernel
  generalize (⟨#[50, 53]⟩ : ByteArray) = s at *
  go_enter Tryz.func27, Tryz.ntmps27
  go_upto_region 5 with fail
  go_quiet (fail)
  go_wp2_with fail
  go_ret
  exact ⟨rfl, below_drewN (Below.refl _ _) _⟩

set_option maxRecDepth 100000 in
theorem ztext25 (w : World) (htab : Tab10 w) : Calls Tryz.prog 11 #[.int .u64 4612811918334230528] w fun e w' => e = .returned (.string ⟨#[50, 46, 53]⟩) ∧ Below w.heap.size w w' := by
  have NG := hid (fun wx : World => znegative_any 4612811918334230528 wx (by decide) (by decide))
  rw [show Sh.ng 4612811918334230528 = false from by decide] at NG
  have CL := hid (fun wx : World => class_any 4612811918334230528 wx (by decide) (by decide))
  rw [show Ie.cls 4612811918334230528 = 2 from by decide] at CL
  have DG := hid (zdig_any 4612811918334230528 w (by decide) (by decide) htab)
  unfold DigTold at DG
  rw [Sh.zD25.1, Sh.zD25.2] at DG
  have LD := hid (fun wx : World => zlaid25 wx)
  clear htab
  go_enter Tryz.func11, Tryz.ntmps11
  go_wp2_with fail
  refine (NG.out _).mono ?_
  rintro e wz ⟨rfl, hz⟩
  subst hz
  go_wp2_with fail
  refine (CL.out _).mono ?_
  rintro e wz ⟨rfl, hz⟩
  subst hz
  go_wp2_with fail
  refine DG.out.mono ?_
  rintro e w1 ⟨t, rfl, ht, hB⟩
  have ht2 : t = ⟨#[50, 53]⟩ := ht.out.inj rfl
  subst ht2
  have e1 : (⟨#[50, 53]⟩ : ByteArray).size = 2 := rfl
  have HB := hid (hB.trans ((alloc_b w1 (.cells #[.bool false, .string ⟨#[50, 53]⟩, .int .i64 (-1)] 28)).mono hB.size))
  clear hB DG ht
  go_wp2_with fail
  refine (LD.out _).mono ?_
  rintro e w2 ⟨rfl, hB⟩
  have K := hid (HB.out.trans (hB.mono HB.out.size))
  clear hB HB
  go_wp2_with fail
  go_ret
  exact ⟨rfl, K.out⟩

set_option maxRecDepth 100000 in
set_option maxHeartbeats 2000000 in
theorem lawake_any (w : World) (htab : Tab10 w) : Calls Tryz.prog 5 #[] w fun e w' => e = .returned (.bool true) ∧ Below w.heap.size w w' := by
  have DG := hid (zdig_any 4591870180066957722 w (by decide) (by decide) htab)
  unfold DigTold at DG
  rw [Sh.zD01.1, Sh.zD01.2] at DG
  have WI : Hid (∀ wx : World, Tab10 wx → Calls Tryz.prog 9 #[.int .u64 4599676419421066581, .int .i64 16] wx fun e w' => ∃ t, e = .returned (.tuple #[.agg #[.bool false, .string t, .int .i64 (-16)], .bool true, .int .i64 0]) ∧ Hid (Str t Sh.threes) ∧ Below wx.heap.size wx w') := by
    intro wx hx
    have h := zwi_any 4599676419421066581 16 wx (by decide) (by decide) (by decide) (by decide) (by decide) hx
    unfold WiTold at h
    rw [show (4599676419421066581 : Int) % 9223372036854775808 = 4599676419421066581 by decide, Sh.wD13.1, Sh.wD13.2, show Sh.ng 4599676419421066581 = false from by decide] at h
    exact h
  have HO := hid (fun wx : World => zhold_pos 4591870180066957722 ⟨#[49]⟩ ⟨false, [49], -1⟩ wx (by decide) (by decide) rfl Sh.nm01 rfl (by decide))
  rw [Sh.hD01] at HO
  have TX := hid (fun (wx : World) (h : Tab10 wx) => ztext25 wx h)
  have Q1 : ∀ wx : World, (Op.equalIn 10000 28 (.agg #[.bool false, .string ⟨#[49]⟩, .int .i64 (-1)]) (.agg #[.bool false, .string ⟨#[49]⟩, .int .i64 (-1)])).run Tryz.prog wx = .ok true wx := fun wx => leq_dec _ _ _ wx
  have Q2 : ∀ wx : World, (Op.equalIn 10000 28 (.agg #[.bool false, .string ⟨#[51, 51, 51, 51, 51, 51, 51, 51, 51, 51, 51, 51, 51, 51, 51, 51]⟩, .int .i64 (-16)]) (.agg #[.bool false, .string ⟨#[51, 51, 51, 51, 51, 51, 51, 51, 51, 51, 51, 51, 51, 51, 51, 51]⟩, .int .i64 (-16)])).run Tryz.prog wx = .ok true wx := fun wx => leq_dec _ _ _ wx
  have TB := hid htab
  clear htab
  go_enter Tryz.func5, Tryz.ntmps5
  go_wp2_with fail
  refine DG.out.mono ?_
  rintro e w1 ⟨t, rfl, ht, hB⟩
  have ht2 : t = ⟨#[49]⟩ := ht.out.inj rfl
  subst ht2
  have HB := hid (hB.trans ((alloc_b w1 (.cells #[.bool false, .string ⟨#[49]⟩, .int .i64 (-1)] 28)).mono hB.size))
  have rX := FR3.new w1 (.bool false) (.string ⟨#[49]⟩) (.int .i64 (-1))
  have W1 := hid (WI.out _ (tab10_below TB.out HB.out))
  have RX := hid rX
  clear hB DG ht WI rX
  go_wp2_with fail
  refine W1.out.mono ?_
  rintro e w2 ⟨t, rfl, ht, hB⟩
  have ht2 : t = ⟨#[51, 51, 51, 51, 51, 51, 51, 51, 51, 51, 51, 51, 51, 51, 51, 51]⟩ := ht.out.inj rfl
  subst ht2
  have aY := alloc_b w2 (.cells #[.bool false, .string ⟨#[51, 51, 51, 51, 51, 51, 51, 51, 51, 51, 51, 51, 51, 51, 51, 51]⟩, .int .i64 (-16)] 28)
  have HB2 := hid (HB.out.trans ((hB.trans (aY.mono hB.size)).mono HB.out.size))
  have RX2 := (RX.out.below (hB.trans (aY.mono hB.size)) RX.out.lt)
  obtain ⟨⟨c0, c1, c2⟩, -⟩ := RX2.cells
  clear hB W1 ht HB aY RX RX2
  go_wp2_with fail
  refine (HO.out _).mono ?_
  rintro e w3 ⟨rfl, hB⟩
  have HB3 := hid (HB2.out.trans (hB.mono HB2.out.size))
  have T3 := hid (TX.out _ (tab10_below TB.out HB3.out))
  clear hB HO HB2 TX c0 c1 c2
  go_wp2_with fail
  refine T3.out.mono ?_
  rintro e w4 ⟨rfl, hB⟩
  have K := hid (HB3.out.trans (hB.mono HB3.out.size))
  clear hB T3 HB3
  go_wp2_with fail
  go_ret
  exact ⟨rfl, K.out⟩
end Go.Proofs.YtonnlimmjelldaaGreatDoor

namespace Go.Proofs.YtonnlimmjelldaaGreatDoor
open Go Go.RowKit Go.Deep

theorem str_some (xs : List Int) : ∃ t : ByteArray, ∀ u, Str u xs → u = t := by
  by_cases h : ∃ t, Str t xs
  · obtain ⟨t, ht⟩ := h
    exact ⟨t, fun u hu => hu.inj ht⟩
  · exact ⟨⟨#[]⟩, fun u hu => absurd ⟨u, hu⟩ h⟩
/-- Digits. -/
theorem dig_one (d : Int) : ∃ (n : Bool) (t : ByteArray) (e r : Int), ∀ w en w', DigTold d w en w' → en = .returned (.tuple #[.agg #[.bool n, .string t, .int .i64 e], .int .i64 r]) ∧ Below w.heap.size w w' := by
  obtain ⟨t, ht⟩ := str_some (Sh.zD d).ds
  refine ⟨(Sh.zD d).neg, t, (Sh.zD d).e, Sh.zR d, fun w en w' h => ?_⟩
  obtain ⟨u, rfl, hu, hB⟩ := h
  rw [ht u hu.out]
  exact ⟨rfl, hB⟩
/-- Within. -/
theorem wi_one (d : Int) (n : Nat) : ∃ (g : Bool) (t : ByteArray) (e : Int) (b : Bool), (∀ w en w', WiTold d n w en w' → en = .returned (.tuple #[.agg #[.bool g, .string t, .int .i64 e], .bool b, .int .i64 0]) ∧ Below w.heap.size w w') ∧ (∀ w en w', XwTold d (d % 9223372036854775808) n w en w' → en = .returned (.tuple #[.agg #[.bool g, .string t, .int .i64 e], .bool b, .int .i64 0]) ∧ Below w.heap.size w w') := by
  obtain ⟨t, ht⟩ := str_some (Sh.wD (d % 9223372036854775808) n).ds
  refine ⟨Sh.wB (d % 9223372036854775808) n && Sh.ng d, t, (Sh.wD (d % 9223372036854775808) n).e, Sh.wB (d % 9223372036854775808) n, fun w en w' h => ?_, fun w en w' h => ?_⟩
  · obtain ⟨u, rfl, hu, hB⟩ := h
    rw [ht u hu.out]
    exact ⟨rfl, hB⟩
  · obtain ⟨u, rfl, hu, hB⟩ := h
    rw [ht u hu.out]
    exact ⟨rfl, hB⟩
/-- Text. -/
theorem tx_one (xs : List Int) : ∃ t : ByteArray, ∀ w en w', TxTold xs w en w' → en = .returned (.string t) ∧ Below w.heap.size w w' := by
  obtain ⟨t, ht⟩ := str_some xs
  refine ⟨t, fun w en w' h => ?_⟩
  obtain ⟨u, rfl, hu, hB⟩ := h
  rw [ht u hu.out]
  exact ⟨rfl, hB⟩
/-- Bounds. -/
theorem bo_one (d : Int) : ∃ (s2 s3 : ByteArray) (e2 e3 : Int) (b : Bool), (∀ (w : World) (en : Ending) (w' : World), (∃ s2 s3, en = .returned (.tuple #[.agg #[.bool (Sh.dd (Sh.A (d % 9223372036854775808))).neg, .string s2, .int .i64 (Sh.dd (Sh.A (d % 9223372036854775808))).e], .agg #[.bool (Sh.dd (Sh.B (d % 9223372036854775808))).neg, .string s3, .int .i64 (Sh.dd (Sh.B (d % 9223372036854775808))).e], .bool (decide (d % 9223372036854775808 % 2 = 0)), .int .i64 0]) ∧ Hid (Str s2 (Sh.dd (Sh.A (d % 9223372036854775808))).ds ∧ Str s3 (Sh.dd (Sh.B (d % 9223372036854775808))).ds) ∧ Below w.heap.size w w') → en = .returned (.tuple #[.agg #[.bool false, .string s2, .int .i64 e2], .agg #[.bool false, .string s3, .int .i64 e3], .bool b, .int .i64 0]) ∧ Below w.heap.size w w') ∧ (∀ (w : World) (en : Ending) (w' : World), BoTold (d % 9223372036854775808) w en w' → en = .returned (.tuple #[.agg #[.bool false, .string s2, .int .i64 e2], .agg #[.bool false, .string s3, .int .i64 e3], .bool b, .int .i64 0]) ∧ Below w.heap.size w w') := by
  have a0 : 0 ≤ d % 9223372036854775808 := by omega
  have nA : (Sh.dd (Sh.A (d % 9223372036854775808))).neg = false := (Sh.dd_is (Sh.A_nn a0)).1.neg
  have nB : (Sh.dd (Sh.B (d % 9223372036854775808))).neg = false := (Sh.dd_is (Sh.B_nn a0)).1.neg
  obtain ⟨t2, h2⟩ := str_some (Sh.dd (Sh.A (d % 9223372036854775808))).ds
  obtain ⟨t3, h3⟩ := str_some (Sh.dd (Sh.B (d % 9223372036854775808))).ds
  refine ⟨t2, t3, (Sh.dd (Sh.A (d % 9223372036854775808))).e, (Sh.dd (Sh.B (d % 9223372036854775808))).e, decide (d % 9223372036854775808 % 2 = 0), fun w en w' h => ?_, fun w en w' h => ?_⟩
  · obtain ⟨u, v, rfl, hs, hB⟩ := h
    rw [h2 u hs.out.1, h3 v hs.out.2, nA, nB]
    exact ⟨rfl, hB⟩
  · obtain ⟨u, v, rfl, hs, hB⟩ := h
    rw [h2 u hs.out.1, h3 v hs.out.2]
    exact ⟨rfl, hB⟩
set_option maxRecDepth 100000 in
set_option maxHeartbeats 2000000 in
theorem zwi_argg (d n : Int) (w : World) (h0 : 0 ≤ d) (h1 : d < 18446744073709551616) (hf : d % 9223372036854775808 < 9218868437227405312) (hn : n < 1 ∨ 17 < n) :
    Calls Tryz.prog 9 #[.int .u64 d, .int .i64 n] w fun e w' => e = .returned (.tuple #[.agg #[.bool false, .string ⟨#[]⟩, .int .i64 0], .bool false, .int .i64 1]) ∧ Below w.heap.size w w' := by
  have FN := hid (fun wx : World => zfinite_any d wx h0 h1)
  have Z := FR3.new w (.bool false) (.string ⟨#[]⟩) (.int .i64 0)
  have ZB := hid (alloc_b w (.cells #[.bool false, .string ⟨#[]⟩, .int .i64 0] 28))
  rw [Sh.fnt_iff, decide_eq_true hf] at FN
  have HZ := hid Z
  obtain ⟨⟨a0, a1, a2⟩, a3, a4, a5⟩ := Z.cells
  clear Z h0 h1 hf
  rcases hn with hn | hn
  · go_enter Tryz.func9, Tryz.ntmps9
    go_wp2_with fail
    refine (FN.out _).mono ?_
    rintro e wz ⟨rfl, hz⟩
    subst hz
    go_wp2_with fail
    (try simp only [Exit.inBlock, Exit.then])
    refine bodyPost_ret (results_row_tmp2 rfl _ _ w.heap.size 28 _ (0, 0) _ rfl HZ.out Tryz.underlying28 rfl (by kernel_rfl)) rfl ?_
    exact ⟨rfl, ZB.out⟩
  · have hn1 : ¬ n < 1 := by omega
    go_enter Tryz.func9, Tryz.ntmps9
    go_wp2_with fail
    refine (FN.out _).mono ?_
    rintro e wz ⟨rfl, hz⟩
    subst hz
    go_wp2_with fail
    (try simp only [Exit.inBlock, Exit.then])
    refine bodyPost_ret (results_row_tmp2 rfl _ _ w.heap.size 28 _ (0, 0) _ rfl HZ.out Tryz.underlying28 rfl (by kernel_rfl)) rfl ?_
    exact ⟨rfl, ZB.out⟩
/-- Digits, both. -/
theorem both_dig (d : Int) (h0 : 0 ≤ d) (h1 : d < 18446744073709551616) : ∃ (n : Bool) (t : ByteArray) (e r : Int), (∀ w, Tab10 w → Calls Tryz.prog 8 #[.int .u64 d] w fun en w' => en = .returned (.tuple #[.agg #[.bool n, .string t, .int .i64 e], .int .i64 r]) ∧ Below w.heap.size w w') ∧ (∀ w, Calls Tryz.prog 12 #[.int .u64 d] w fun en w' => en = .returned (.tuple #[.agg #[.bool n, .string t, .int .i64 e], .int .i64 r]) ∧ Below w.heap.size w w') := by
  obtain ⟨n, t, e, r, O⟩ := dig_one d
  refine ⟨n, t, e, r, fun w ht => (zdig_any d w h0 h1 ht).mono (O w), fun w => ?_⟩
  by_cases hf : d % 9223372036854775808 < 9218868437227405312
  · exact (xdig_any d _ w h0 h1 rfl hf).mono (O w)
  · exact (xdig_nof d w h0 h1 hf).mono (O w)
/-- Within, both. -/
theorem both_wi (d N : Int) (h0 : 0 ≤ d) (h1 : d < 18446744073709551616) : ∃ (n : Bool) (t : ByteArray) (e : Int) (b : Bool) (r : Int), (∀ w, Tab10 w → Calls Tryz.prog 9 #[.int .u64 d, .int .i64 N] w fun en w' => en = .returned (.tuple #[.agg #[.bool n, .string t, .int .i64 e], .bool b, .int .i64 r]) ∧ Below w.heap.size w w') ∧ (∀ w, Calls Tryz.prog 13 #[.int .u64 d, .int .i64 N] w fun en w' => en = .returned (.tuple #[.agg #[.bool n, .string t, .int .i64 e], .bool b, .int .i64 r]) ∧ Below w.heap.size w w') := by
  by_cases hf : d % 9223372036854775808 < 9218868437227405312
  · by_cases hn : N < 1 ∨ 17 < N
    · exact ⟨false, ⟨#[]⟩, 0, false, 1, fun w _ => zwi_argg d N w h0 h1 hf hn, fun w => xwithin_arg d N w h0 h1 hf hn⟩
    · obtain ⟨k, rfl⟩ : ∃ k : Nat, N = (k : Int) := ⟨N.toNat, by omega⟩
      obtain ⟨n, t, e, b, O, P⟩ := wi_one d k
      exact ⟨n, t, e, b, 0, fun w ht => (zwi_any d k w h0 h1 hf (by omega) (by omega) ht).mono (O w), fun w => (xwithin_any d _ k w h0 h1 rfl hf (by omega) (by omega)).mono (P w)⟩
  · exact ⟨false, ⟨#[]⟩, 0, false, 5, fun w _ => zwi_inf d N w h0 h1 hf, fun w => xwithin_nof d N w h0 h1 hf⟩
/-- Bounds, both. -/
theorem both_bo (d : Int) (h0 : 0 ≤ d) (h1 : d < 18446744073709551616) : ∃ (s2 s3 : ByteArray) (e2 e3 : Int) (b : Bool) (r : Int), (∀ w, Calls Tryz.prog 14 #[.int .u64 d] w fun en w' => en = .returned (.tuple #[.agg #[.bool false, .string s2, .int .i64 e2], .agg #[.bool false, .string s3, .int .i64 e3], .bool b, .int .i64 r]) ∧ Below w.heap.size w w') ∧ (∀ w, Calls Tryz.prog 15 #[.int .u64 d] w fun en w' => en = .returned (.tuple #[.agg #[.bool false, .string s2, .int .i64 e2], .agg #[.bool false, .string s3, .int .i64 e3], .bool b, .int .i64 r]) ∧ Below w.heap.size w w') := by
  by_cases hf : d % 9223372036854775808 < 9218868437227405312
  · obtain ⟨s2, s3, e2, e3, b, O, P⟩ := bo_one d
    exact ⟨s2, s3, e2, e3, b, 0, fun w => (zbnd_any d w h0 h1 hf).mono (O w), fun w => (xbnd_any d _ w h0 h1 rfl hf).mono (P w)⟩
  · exact ⟨⟨#[]⟩, ⟨#[]⟩, 0, 0, false, 5, fun w => zbnd_inf d w h0 h1 hf, fun w => xbnd_inf d w h0 h1 hf⟩
/-- Text, both. -/
theorem both_tx (d : Int) (h0 : 0 ≤ d) (h1 : d < 18446744073709551616) : ∃ t : ByteArray, (∀ w, Tab10 w → Calls Tryz.prog 11 #[.int .u64 d] w fun en w' => en = .returned (.string t) ∧ Below w.heap.size w w') ∧ (∀ w, Tab10 w → Calls Tryz.prog 17 #[.int .u64 d] w fun en w' => en = .returned (.string t) ∧ Below w.heap.size w w') := by
  obtain ⟨t, O⟩ := tx_one (Tn.txg d)
  exact ⟨t, fun w ht => (ztexg_any d w h0 h1 ht).mono (O w), fun w ht => (xtexg_any d w h0 h1 ht).mono (O w)⟩
end Go.Proofs.YtonnlimmjelldaaGreatDoor

namespace Go.Proofs.YtonnlimmjelldaaGreatDoor
open Go.RowKit Go.Deep Go.ChangeShapes Go.WideShapes Go.ChangeAt

theorem array3 {α : Type} {cs : Array α} (h : cs.size = 3) : ∃ c0 c1 c2, cs = #[c0, c1, c2] := by
  obtain ⟨l⟩ := cs
  match l, h with
  | [c0, c1, c2], _ => exact ⟨c0, c1, c2, rfl⟩

theorem list3 {α : Type} {l : List α} (h : l.length = 3) : ∃ c0 c1 c2, l = [c0, c1, c2] := by
  match l, h with
  | [c0, c1, c2], _ => exact ⟨c0, c1, c2, rfl⟩

theorem open_dec_cells {H : Type} {enc : TypeId × Value → H} {W : World} {fuel : Nat} {a0 a1 a2 : Value} {x : DataW H × List MemPlace} (hf : DataW.trod enc Tryz.prog W 0 (fun _ => true) true fuel 28 [a0, a1, a2] = some x)
    (hsz : ∀ n ∈ x.1.weights Tryz.prog 28, n ≤ reachBytes) :
    ∃ (neg : Bool) (s : ByteArray) (e : Int), a0 = .bool neg ∧ a1 = .string s ∧ a2 = .int .i64 e ∧ s.size ≤ 140737488351232 ∧ (-9223372036854775808 ≤ e ∧ e ≤ 9223372036854775807) := by
  obtain ⟨xs, n, _, hx, _, hlen, hfs⟩ := DataW.trod_struct Tryz.underlying28 hf
  obtain ⟨y0, y1, y2, rfl⟩ := list3 hlen
  have c3 : Tryz.prog.cellsOf 3 = 1 := by kernel_rfl
  have cs : Tryz.prog.cellsOf 9 = 1 := by kernel_rfl
  have cb : Tryz.prog.cellsOf 4 = 1 := by kernel_rfl
  have f0 : DataW.trod enc Tryz.prog W 0 (fun _ => true) true n 4 [a0] = some y0 := by simpa [cb] using hfs 0 _ rfl
  have f1 : DataW.trod enc Tryz.prog W 0 (fun _ => true) true n 9 [a1] = some y1 := by simpa [cs] using hfs 1 _ rfl
  have f2 : DataW.trod enc Tryz.prog W 0 (fun _ => true) true n 3 [a2] = some y2 := by simpa [c3] using hfs 2 _ rfl
  have hd : x.1 = .agg [y0.1, y1.1, y2.1] := by rw [hx]; rfl
  obtain ⟨ng, e0, _⟩ := DataW.trod_bool Tryz.underlying4 f0
  obtain ⟨s, e1, q1, _⟩ := DataW.trod_string Tryz.underlying9 f1
  obtain ⟨E, e2, _, w2⟩ := DataW.trod_int Tryz.underlying3 f2
  have hs : s.data.toList.length ≤ reachBytes := by
    refine hsz _ ?_
    rw [hd]
    simp only [DataW.weights, Tryz.underlying28]
    refine DataW.weights_mem_each (ts := [4, 9, 3]) (ds := [y0.1, y1.1, y2.1]) (j := 1) (t := 9) (d := y1.1) rfl rfl _ ?_
    rw [q1]
    simp [DataW.weights]
  have b2 := bounds_i64 w2
  refine ⟨ng, s, E, (List.cons.inj e0).1, (List.cons.inj e1).1, (List.cons.inj e2).1, ?_, by omega, by omega⟩
  rw [Array.length_toList] at hs
  exact Nat.le_trans (show s.size ≤ reachBytes from hs) (by decide)

set_option maxRecDepth 100000 in
theorem open_dec {H : Type} {enc : TypeId × Value → H} {W : World} {base : Nat} {v : Value} {d : DataW H} {p : List MemPlace} (hv : Value.okWide Tryz.prog W .any base 28 v) (h : DataW.Trod enc Tryz.prog W 0 (fun _ => true) true 28 v d p)
    (hsz : ∀ n ∈ d.weights Tryz.prog 28, n ≤ reachBytes) :
    ∃ (neg : Bool) (s : ByteArray) (e : Int), v = decV neg s e ∧ s.size ≤ 140737488351232 ∧ (-9223372036854775808 ≤ e ∧ e ≤ 9223372036854775807) := by
  obtain ⟨cs, rfl, hs3⟩ := okWide_struct Tryz.underlying28 hv
  obtain ⟨a0, a1, a2, rfl⟩ := array3 (hs3.trans (show Tryz.prog.cellsOf 28 = 3 by kernel_rfl))
  obtain ⟨fuel, hf⟩ := h
  have hf' : DataW.trod enc Tryz.prog W 0 (fun _ => true) true fuel 28 [a0, a1, a2] = some (d, p) := by simpa [Value.cells] using hf
  obtain ⟨neg, s, e, e0, e1, e2, h1, h2⟩ := open_dec_cells (x := (d, p)) hf' hsz
  rw [e0, e1, e2]
  exact ⟨neg, s, e, rfl, h1, h2⟩

theorem str_len (s : ByteArray) {n : Nat} (h : s.size ≤ n) : (s.data.toList.map (fun b => (b.toNat : Int))).length ≤ n := by
  rw [List.length_map, Array.length_toList]; exact h
end Go.Proofs.YtonnlimmjelldaaGreatDoor

namespace Go.Proofs.YtonnlimmjelldaaGreatDoor
open Go.RowKit Go.Deep Go.ChangeShapes Go.WideShapes Go.ChangeAt

theorem all_mem12 {H : Type} {P : Program} {e : TypeId} : ∀ {l : List (DataW H)} {d : DataW H}, d ∈ l → ∀ n ∈ d.weights P e, n ∈ DataW.weightsAll P e l
  | [], _, h, _, _ => by simp at h
  | x :: r, d, h, n, hn => by
    simp only [DataW.weightsAll, List.mem_append]
    rcases List.mem_cons.1 h with rfl | h
    · exact .inl hn
    · exact .inr (all_mem12 h n hn)

/-- What can be told of each place can be told of a list. -/
theorem list_of_each12 {α : Type} {Q : Nat → α → Prop} : ∀ n, (∀ i, i < n → ∃ x, Q i x) → ∃ l : List α, l.length = n ∧ ∀ i x, l[i]? = some x → Q i x
  | 0, _ => ⟨[], rfl, by simp⟩
  | n + 1, h => by
    obtain ⟨l, h1, h2⟩ := list_of_each12 n (fun i hi => h i (by omega))
    obtain ⟨x, hx⟩ := h n (by omega)
    refine ⟨l ++ [x], by simp [h1], fun i y hy => ?_⟩
    by_cases hi : i < l.length
    · rw [List.getElem?_append_left hi] at hy
      exact h2 i y hy
    · have hlt := (List.getElem?_eq_some_iff.1 hy).1
      simp only [List.length_append, List.length_cons, List.length_nil] at hlt
      obtain rfl : i = n := by omega
      rw [List.getElem?_append_right (by omega), h1, Nat.sub_self] at hy
      simp at hy
      subst hy
      exact hx

/-- A call that was read. -/
structure O12 where
  K : Int
  d : Int
  N : Int
  n : Bool
  s : ByteArray
  e : Int

def O12.Cells (w : World) (b o : Nat) (it : O12) : Prop :=
  w.cell? ⟨b, o, none⟩ = some (.int .i64 it.K) ∧ w.cell? ⟨b, o + 1, none⟩ = some (.int .u64 it.d) ∧ w.cell? ⟨b, o + 2, none⟩ = some (.int .i64 it.N) ∧ w.cell? ⟨b, o + 3, none⟩ = some (.bool it.n) ∧ w.cell? ⟨b, o + 4, none⟩ = some (.string it.s) ∧ w.cell? ⟨b, o + 5, none⟩ = some (.int .i64 it.e)
def O12.Bd (it : O12) : Prop := (0 ≤ it.d ∧ it.d < 18446744073709551616) ∧ it.s.size ≤ 140737488351232 ∧ (-9223372036854775808 ≤ it.e ∧ it.e ≤ 9223372036854775807) ∧ (-9223372036854775808 ≤ it.N ∧ it.N ≤ 9223372036854775807)
def O12.Holds (w : World) (a : Option Addr) (its : List O12) : Prop := its = [] ∨ ∃ b off, a = some ⟨b, off, none⟩ ∧ ∀ i it, its[i]? = some it → O12.Cells w b (off + i * 6) it
theorem list4q {α : Type} {l : List α} (h : l.length = 4) : ∃ c0 c1 c2 c3, l = [c0, c1, c2, c3] := by
  match l, h with
  | [c0, c1, c2, c3], _ => exact ⟨c0, c1, c2, c3, rfl⟩
theorem list6q {α : Type} {l : List α} (h : l.length = 6) : ∃ c0 c1 c2 c3 c4 c5, l = [c0, c1, c2, c3, c4, c5] := by
  match l, h with
  | [c0, c1, c2, c3, c4, c5], _ => exact ⟨c0, c1, c2, c3, c4, c5, rfl⟩

theorem open_op12 {H : Type} {enc : TypeId × Value → H} {W : World} {fuel : Nat} {a0 a1 a2 a3 a4 a5 : Value} {y : DataW H × List MemPlace} (hf : DataW.trod enc Tryz.prog W 0 (fun _ => true) true fuel 30 [a0, a1, a2, a3, a4, a5] = some y)
    (hsz : ∀ n ∈ y.1.weights Tryz.prog 30, n ≤ reachBytes) :
    ∃ it : O12, a0 = .int .i64 it.K ∧ a1 = .int .u64 it.d ∧ a2 = .int .i64 it.N ∧ a3 = .bool it.n ∧ a4 = .string it.s ∧ a5 = .int .i64 it.e ∧ it.Bd := by
  obtain ⟨xs, n, _, hx, _, hlen, hfs⟩ := DataW.trod_struct Tryz.underlying30 hf
  obtain ⟨y0, y1, y2, y3, rfl⟩ := list4q hlen
  have ci : Tryz.prog.cellsOf 3 = 1 := by kernel_rfl
  have cu : Tryz.prog.cellsOf 26 = 1 := by kernel_rfl
  have cd : Tryz.prog.cellsOf 28 = 3 := by kernel_rfl
  have f0 : DataW.trod enc Tryz.prog W 0 (fun _ => true) true n 3 [a0] = some y0 := by simpa [ci, cu, cd] using hfs 0 _ rfl
  have f1 : DataW.trod enc Tryz.prog W 0 (fun _ => true) true n 26 [a1] = some y1 := by simpa [ci, cu, cd] using hfs 1 _ rfl
  have f2 : DataW.trod enc Tryz.prog W 0 (fun _ => true) true n 3 [a2] = some y2 := by simpa [ci, cu, cd] using hfs 2 _ rfl
  have f3 : DataW.trod enc Tryz.prog W 0 (fun _ => true) true n 28 [a3, a4, a5] = some y3 := by simpa [ci, cu, cd] using hfs 3 _ rfl
  have hd : y.1 = .agg [y0.1, y1.1, y2.1, y3.1] := by rw [hx]; rfl
  obtain ⟨K, e0, _, _⟩ := DataW.trod_int Tryz.underlying3 f0
  obtain ⟨d, e1, _, w1⟩ := DataW.trod_int Tryz.underlying26 f1
  obtain ⟨N, e2, _, w2⟩ := DataW.trod_int Tryz.underlying3 f2
  obtain ⟨neg, s, e, g0, g1, g2, h1, h2⟩ := open_dec_cells f3 (fun m hm => hsz m (by
    rw [hd]
    simp only [DataW.weights, Tryz.underlying30]
    exact DataW.weights_mem_each (ts := [3, 26, 3, 28]) (ds := [y0.1, y1.1, y2.1, y3.1]) (j := 3) (t := 28) (d := y3.1) rfl rfl _ hm))
  have b1 := bounds_u64 w1
  have b2 := bounds_i64 w2
  exact ⟨⟨K, d, N, neg, s, e⟩, (List.cons.inj e0).1, (List.cons.inj e1).1, (List.cons.inj e2).1, g0, g1, g2, by simp only [O12.Bd]; omega⟩

set_option maxRecDepth 100000 in
theorem open_ops12 {H : Type} {enc : TypeId × Value → H} {W : World} {a : Option Addr} {len cap : Nat} {d : DataW H} {p : List MemPlace} (h : DataW.Trod enc Tryz.prog W 0 (fun _ => true) true 22 (.slice a len cap) d p)
    (hsz : ∀ n ∈ d.weights Tryz.prog 22, n ≤ reachBytes) : ∃ its : List O12, its.length = len ∧ len ≤ cap ∧ cap ≤ 17592186044416 ∧ O12.Holds W a its ∧ ∀ it ∈ its, O12.Bd it := by
  obtain ⟨fuel, hf⟩ := h
  rcases DataW.trod_slice Tryz.underlying22 hf with ⟨hcs, _⟩ | ⟨x, l, c, elems, rest, n, _, hcs, hx, _, hl, hm, he, hel, hsp, _⟩
  · simp [Value.cells] at hcs
    obtain ⟨rfl, rfl, rfl⟩ := hcs
    exact ⟨[], rfl, Nat.le_refl _, by omega, .inl rfl, by intro it h; simp at h⟩
  · simp [Value.cells] at hcs
    obtain ⟨rfl, rfl, rfl⟩ := hcs
    have hd : d = .slice (elems.map (·.1)) (rest.map (·.1)) := (Prod.mk.inj hx).1
    have hw : ∀ n ∈ (DataW.slice (elems.map (·.1)) (rest.map (·.1)) : DataW H).weights Tryz.prog 22, n ≤ reachBytes := by rw [← hd]; exact hsz
    simp only [DataW.weights, Tryz.underlying22] at hw
    have hr := hw _ List.mem_cons_self
    rw [show Tryz.prog.bytesOf 30 = 56 by kernel_rfl] at hr
    have hrl := (hsp rfl).1
    simp only [List.length_map, reachBytes] at hr
    have hcap : cap ≤ 17592186044416 := by omega
    rw [show Tryz.prog.cellsOf 30 = 6 by kernel_rfl] at hel
    obtain ⟨its, i1, i2⟩ := list_of_each12 (Q := fun i (it : O12) => (W.cell? (x.add (i * 6)) = some (.int .i64 it.K) ∧ W.cell? ((x.add (i * 6)).add 1) = some (.int .u64 it.d) ∧ W.cell? ((x.add (i * 6)).add 2) = some (.int .i64 it.N) ∧ W.cell? ((x.add (i * 6)).add 3) = some (.bool it.n) ∧ W.cell? ((x.add (i * 6)).add 4) = some (.string it.s) ∧ W.cell? ((x.add (i * 6)).add 5) = some (.int .i64 it.e)) ∧ it.Bd) len (fun i hi => by
      have h1 := hel i hi
      have h2 : elems[i]? = some elems[i] := List.getElem?_eq_getElem (by omega)
      rw [h2] at h1
      obtain ⟨cs, h3, h4⟩ := Option.bind_eq_some_iff.1 h1
      obtain ⟨_, h5, h6⟩ := World.cells?_some h3
      obtain ⟨v0, v1, v2, v3, v4, v5, rfl⟩ := list6q h5
      have e0 := h6 0 (by omega)
      have e1 := h6 1 (by omega)
      have e2 := h6 2 (by omega)
      have e3 := h6 3 (by omega)
      have e4 := h6 4 (by omega)
      have e5 := h6 5 (by omega)
      have h8 : (x.add (i * 6)).add 0 = x.add (i * 6) := by simp [Addr.add]
      rw [h8] at e0
      obtain ⟨it, q0, q1, q2, q3, q4, q5, hA⟩ := open_op12 h4 (fun m hm => hw m (List.mem_cons_of_mem _ (List.mem_append_left _ (all_mem12 (List.mem_map.2 ⟨elems[i], List.getElem_mem _, rfl⟩) m hm))))
      subst q0 q1 q2 q3 q4 q5
      exact ⟨it, ⟨e0, e1, e2, e3, e4, e5⟩, hA⟩)
    refine ⟨its, i1, hl, hcap, ?_, ?_⟩
    · rcases Nat.eq_zero_or_pos its.length with h0 | h0
      · exact .inl (List.eq_nil_of_length_eq_zero h0)
      · obtain ⟨b, off, spot⟩ := x
        have hspot : spot = none := by simpa [Addr.add] using World.cell?_spot (i2 0 _ (List.getElem?_eq_getElem h0)).1.1
        subst hspot
        refine .inr ⟨b, off, rfl, fun i it hi => ?_⟩
        obtain ⟨⟨q0, q1, q2, q3, q4, q5⟩, _⟩ := i2 i it hi
        rw [Go.WideShapes.add_plain] at q0 q1 q2 q3 q4 q5
        rw [Go.WideShapes.add_plain] at q1 q2 q3 q4 q5
        exact ⟨q0, q1, q2, q3, q4, q5⟩
    · intro it hit
      obtain ⟨i, hi⟩ := List.getElem?_of_mem hit
      exact (i2 i it hi).2
end Go.Proofs.YtonnlimmjelldaaGreatDoor
