/-
  A Dec's written form, read back.
-/
import Derived.Test.YtjghlpkjbfaoiaaDoorVOrd
import Derived.Test.YtjghlpkjbfaoiaaDoorVItoa
namespace Go.Proofs.YtjghlpkjbfaoiaaDoor
namespace Sc

/-- A number's digits, as bytes. -/
def dl (u : Nat) : List Int := (Lib.decDigits u).map fun b => (b.toNat : Int)
theorem dl_small {u : Nat} (h : u < 10) : dl u = [48 + (u : Int)] := by
  unfold dl
  rw [Lib.decDigits_one h]
  simp only [List.map_cons, List.map_nil]
  rw [UInt8.toNat_ofNat_of_lt' (by show 48 + u < 256; omega)]
  simp
theorem dl_big {u : Nat} (h : ¬ u < 10) : dl u = dl (u / 10) ++ [48 + ((u % 10 : Nat) : Int)] := by
  unfold dl
  rw [Lib.decDigits, dif_neg h, List.map_append]
  simp only [List.map_cons, List.map_nil]
  rw [UInt8.toNat_ofNat_of_lt' (by show 48 + u % 10 < 256; omega)]
  simp
theorem dl_is (u : Nat) : (∀ x ∈ dl u, dg x = true) ∧ dl u ≠ [] ∧ cap (dl u) = min (u : Int) 1000000000000000 := by
  induction u using Nat.strongRecOn with
  | _ u ih =>
    by_cases h : u < 10
    · rw [dl_small h]
      refine ⟨fun x hx => ?_, by simp, ?_⟩
      · rw [List.mem_singleton] at hx; subst hx; rw [dg_iff]; omega
      · have := cap_snoc [] (48 + (u : Int))
        rw [List.nil_append, cap_nil] at this
        rw [this]; omega
    · obtain ⟨h1, h2, h3⟩ := ih (u / 10) (by omega)
      rw [dl_big h]
      refine ⟨fun x hx => ?_, by simp, ?_⟩
      · rw [List.mem_append, List.mem_singleton] at hx
        rcases hx with hx | hx
        · exact h1 x hx
        · subst hx; rw [dg_iff]; omega
      · rw [cap_snoc, h3]; omega

theorem itl_is (n : Int) : itl n = (if n < 0 then [45] else []) ++ dl n.natAbs := by
  unfold itl Lib.itoa dl
  by_cases h : n < 0
  · rw [if_pos h, if_pos h]; rfl
  · rw [if_neg h, if_neg h]; rw [show n.toNat = n.natAbs by omega]; rfl

/-- A Dec's written form. -/
def txt (d : D) : List Int := (if d.neg = true then [45] else []) ++ d.ds ++ (if d.e ≠ 0 then 101 :: itl d.e else [])

theorem run_app {p : Int → Bool} (hp : p 0 = false) {as' bs cs : List Int} (h1 : ∀ x ∈ bs, p x = true) (h2 : p (pk cs 0) = false) : run p (as' ++ bs ++ cs) as'.length = bs.length := by
  apply run_is hp
  · intro j hj
    rw [pk_append, if_pos (by simp; omega), pk_append, if_neg (by omega), show as'.length + j - as'.length = j by omega]
    apply h1
    simp [pk, List.getD, hj]
  · rw [pk_append, if_neg (by simp), show as'.length + bs.length - (as' ++ bs).length = 0 by simp]
    exact h2
theorem take_app {as' bs cs : List Int} : ((as' ++ bs ++ cs).drop as'.length).take bs.length = bs := by
  rw [List.append_assoc, List.drop_left, List.take_left]

/-- Digits that are there, all digits. -/
def Dig (ds : List Int) : Prop := ds ≠ [] ∧ ∀ x ∈ ds, dg x = true
theorem Dig.pk0 {ds : List Int} (h : Dig ds) : dg (pk ds 0) = true := by
  obtain ⟨h1, h2⟩ := h
  cases ds with
  | nil => exact absurd rfl h1
  | cons x l => exact h2 x (by simp)

/-- sign, digits, and an e-part. -/
theorem txt_lit {d : D} (hd : Dig d.ds) (h0 : -1000000000000000 ≤ d.e) (h1 : d.e ≤ 1000000000000000) :
    run bl (txt d) 0 = 0 ∧ some? (txt d) 0 ∧ lit (txt d) 0 = ⟨d.neg, d.ds, [], d.e, (txt d).length⟩ := by
  obtain ⟨sn, hsn⟩ : ∃ sn : List Int, sn = (if d.neg = true then [45] else []) := ⟨_, rfl⟩
  obtain ⟨ep, hep⟩ : ∃ ep : List Int, ep = (if d.e ≠ 0 then 101 :: itl d.e else []) := ⟨_, rfl⟩
  have ht : txt d = sn ++ d.ds ++ ep := by rw [hsn, hep]; rfl
  have hl : sn.length = if d.neg = true then 1 else 0 := by rw [hsn]; split <;> rfl
  have d0 := hd.pk0
  have d0' := dg_iff.1 d0
  have dpos : 0 < d.ds.length := by
    rcases Nat.eq_zero_or_pos d.ds.length with c | c
    · exact absurd (List.length_eq_zero_iff.1 c) hd.1
    · exact c
  -- the first byte
  have f0 : pk (txt d) 0 = if d.neg = true then 45 else pk d.ds 0 := by
    rw [ht, pk_append, if_pos (by simp; omega), pk_append]
    cases c : d.neg with
    | true => rw [hsn, c]; rfl
    | false => rw [hsn, c]; rfl
  have g1 : run bl (txt d) 0 = 0 := by
    apply run_zero bl0
    rw [f0, bl_not]
    cases c : d.neg <;> simp <;> omega
  have e0 : p1 (txt d) 0 = sn.length := by
    unfold p1 sg
    rw [f0, hl]
    cases c : d.neg with
    | true => simp
    | false => simp only [Bool.false_eq_true, if_false]; rw [if_neg (by omega)]
  have epk : dg (pk ep 0) = false ∧ pk ep 0 ≠ 46 := by
    rw [hep]; split
    · exact ⟨rfl, by show (101 : Int) ≠ 46; omega⟩
    · exact ⟨rfl, by show (0 : Int) ≠ 46; omega⟩
  have e1 : run dg (txt d) sn.length = d.ds.length := by rw [ht]; exact run_app dg0 hd.2 epk.1
  have e2 : p2 (txt d) 0 = sn.length + d.ds.length := by unfold p2; rw [e0, e1]
  have at2 : ∀ i, pk (txt d) (sn.length + d.ds.length + i) = pk ep i := fun i => by
    rw [ht, pk_append, if_neg (by simp), show sn.length + d.ds.length + i - (sn ++ d.ds).length = i by simp]
  have a2 : pk (txt d) (p2 (txt d) 0) ≠ 46 := by rw [e2]; have := at2 0; rw [Nat.add_zero] at this; rw [this]; exact epk.2
  have e3 : bn (txt d) 0 = 0 := by unfold bn; rw [if_neg a2]
  have e4 : p3 (txt d) 0 = sn.length + d.ds.length := by unfold p3; rw [if_neg a2, e2]
  have lt : (txt d).length = sn.length + d.ds.length + ep.length := by rw [ht]; simp; omega
  refine ⟨g1, by unfold some?; rw [e0, e1]; omega, ?_⟩
  have ah : ((txt d).drop (p1 (txt d) 0)).take (run dg (txt d) (p1 (txt d) 0)) = d.ds := by rw [e0, e1, ht]; exact take_app
  have ng : decide (pk (txt d) 0 = 45) = d.neg := by
    rw [f0]
    cases c : d.neg with
    | true => simp
    | false => simp; omega
  by_cases c : d.e = 0
  · have ep0 : ep = [] := by rw [hep, if_neg (by omega)]
    have hE : hasE (txt d) (p3 (txt d) 0) = false := by
      unfold hasE
      rw [e4]
      have := at2 0
      rw [Nat.add_zero] at this
      rw [this, ep0]; rfl
    unfold lit
    rw [ah, ng, e3, hE, e4, lt, ep0, c]
    simp
  · have ep1 : ep = 101 :: itl d.e := by rw [hep, if_pos c]
    obtain ⟨sg2, hsg2⟩ : ∃ s2 : List Int, s2 = (if d.e < 0 then [45] else []) := ⟨_, rfl⟩
    have ep2 : ep = 101 :: (sg2 ++ dl d.e.natAbs) := by rw [ep1, itl_is, hsg2]
    obtain ⟨k1, k2, k3⟩ := dl_is d.e.natAbs
    have k0 := Dig.pk0 ⟨k2, k1⟩
    have k0' := dg_iff.1 k0
    have hl2 : sg2.length = if d.e < 0 then 1 else 0 := by rw [hsg2]; split <;> rfl
    have t0 : pk (txt d) (p3 (txt d) 0) = 101 := by
      rw [e4]; have := at2 0; rw [Nat.add_zero] at this; rw [this, ep2]; rfl
    have t1 : pk (txt d) (p3 (txt d) 0 + 1) = if d.e < 0 then 45 else pk (dl d.e.natAbs) 0 := by
      rw [e4, at2 1, ep2]
      show pk (sg2 ++ dl d.e.natAbs) 0 = _
      rw [pk_append, hsg2]
      split <;> simp_all [pk]
    have e5 : p4 (txt d) (p3 (txt d) 0) = sn.length + d.ds.length + 1 + sg2.length := by
      unfold p4 sg
      rw [t1, e4, hl2]
      by_cases h : d.e < 0
      · simp [h]
      · simp only [h, if_false]; rw [if_neg (by omega)]
    have spl : txt d = (sn ++ d.ds ++ 101 :: sg2) ++ dl d.e.natAbs ++ [] := by rw [ht, ep2]; simp
    have spn : (sn ++ d.ds ++ 101 :: sg2).length = sn.length + d.ds.length + 1 + sg2.length := by simp; omega
    have e6 : run dg (txt d) (p4 (txt d) (p3 (txt d) 0)) = (dl d.e.natAbs).length := by
      rw [e5, ← spn, spl]
      exact run_app dg0 k1 rfl
    have t2 : ((txt d).drop (p4 (txt d) (p3 (txt d) 0))).take (run dg (txt d) (p4 (txt d) (p3 (txt d) 0))) = dl d.e.natAbs := by
      rw [e6, e5, ← spn]
      conv => lhs; rw [spl]
      exact take_app
    have hE : hasE (txt d) (p3 (txt d) 0) = true := by
      unfold hasE
      rw [t0, e5, ← spn]
      have : pk (txt d) (sn ++ d.ds ++ 101 :: sg2).length = pk (dl d.e.natAbs) 0 := by
        rw [spl, List.append_nil, pk_append, if_neg (by omega), Nat.sub_self]
      rw [this, k0]; rfl
    have len : p4 (txt d) (p3 (txt d) 0) + (dl d.e.natAbs).length = (txt d).length := by
      rw [e5, ← spn]; conv => rhs; rw [spl]
      simp; omega
    have sc : (if pk (txt d) (p3 (txt d) 0 + 1) = 45 then - cap (dl d.e.natAbs) else cap (dl d.e.natAbs)) = d.e := by
      rw [t1, k3]
      by_cases h : d.e < 0
      · simp only [h, if_true]; omega
      · simp only [h, if_false]; rw [if_neg (by omega)]; omega
    unfold lit
    rw [ah, ng, e3, hE, t2, e6]
    simp only [if_true, List.take_zero]
    rw [sc, len]

/-- The normal form of a normal form is itself. -/
theorem nrm_again {neg : Bool} {ds : List Int} {e : Int} : nrm neg (nrm neg ds e).ds (nrm neg ds e).e = nrm neg ds e := by
  by_cases h : lz ds = ds.length
  · rw [nrm_zero h]
    apply nrm_of_none
    intro i hi
    simp at hi; subst hi; rfl
  · have h2 := lz_tz h
    obtain ⟨L, hL⟩ : ∃ L, L = (ds.drop (lz ds)).take (ds.length - tz ds - lz ds) := ⟨_, rfl⟩
    have ll : L.length = ds.length - tz ds - lz ds := by rw [hL]; simp; omega
    have at0 : pk L 0 = pk ds (lz ds) := by rw [hL, pk_take, if_pos (by omega), pk_drop]; rfl
    have atl : pk L (L.length - 1) = pk ds (ds.length - tz ds - 1) := by rw [hL, pk_take, if_pos (by rw [← hL]; omega), pk_drop]; congr 1; rw [← hL]; omega
    rw [nrm_pos h, ← hL]
    have l0 : lz L = 0 := lz_is (fun i hi => by omega) (by rw [at0]; exact lz_end ds)
    have t0 : tz L = 0 := by
      have := tz_is (ds := L) (k := L.length) (Nat.le_refl _) (fun i a b => by omega) (fun _ => by rw [atl]; exact tz_end (by omega))
      omega
    rw [nrm_pos (show lz L ≠ L.length by omega), l0, t0]
    simp
theorem nrm_ends {neg : Bool} {ds : List Int} {e : Int} (h : (nrm neg ds e).ds ≠ [48]) : pk (nrm neg ds e).ds 0 ≠ 48 ∧ pk (nrm neg ds e).ds ((nrm neg ds e).ds.length - 1) ≠ 48 ∧ 0 < (nrm neg ds e).ds.length := by
  have hc : lz ds ≠ ds.length := fun c => h (nrm_ds_one.2 c)
  have h2 := lz_tz hc
  rw [nrm_pos hc]
  simp only
  obtain ⟨L, hL⟩ : ∃ L, L = (ds.drop (lz ds)).take (ds.length - tz ds - lz ds) := ⟨_, rfl⟩
  rw [← hL]
  have ll : L.length = ds.length - tz ds - lz ds := by rw [hL]; simp; omega
  have at0 : pk L 0 = pk ds (lz ds) := by rw [hL, pk_take, if_pos (by omega), pk_drop]; rfl
  have atl : pk L (L.length - 1) = pk ds (ds.length - tz ds - 1) := by rw [hL, pk_take, if_pos (by rw [← hL]; omega), pk_drop]; congr 1; rw [← hL]; omega
  refine ⟨by rw [at0]; exact lz_end ds, by rw [atl]; exact tz_end (by omega), by omega⟩
theorem nrm_dig {neg : Bool} {ds : List Int} {e : Int} (h : IsDec ds e) : Dig (nrm neg ds e).ds := by
  by_cases c : lz ds = ds.length
  · rw [nrm_zero c]
    exact ⟨by simp, fun x hx => by simp at hx; subst hx; rfl⟩
  · have h2 := lz_tz c
    rw [nrm_pos c]
    refine ⟨fun k => ?_, fun x hx => h.2.2.2.1 x (List.mem_of_mem_drop (List.mem_of_mem_take hx))⟩
    have := congrArg List.length k
    simp at this; omega
theorem nrm_isdec {neg : Bool} {ds : List Int} {e : Int} (h : IsDec ds e) : IsDec (nrm neg ds e).ds (nrm neg ds e).e := by
  have hd := nrm_dig (neg := neg) h
  refine ⟨hd.1, ?_, ?_, hd.2, fun _ => ?_⟩
  · rcases nrm_e neg ds e with k | k
    · omega
    · have := h.2.1; omega
  · by_cases c : lz ds = ds.length
    · rw [nrm_zero c]; show (0 : Int) ≤ _; omega
    · rw [nrm_pos c]; exact h.2.2.2.2 c
  · have ag := nrm_again (neg := neg) (ds := ds) (e := e)
    next hc =>
    rw [nrm_pos hc] at ag
    have e2 : (nrm neg ds e).e + (tz (nrm neg ds e).ds : Int) = (nrm neg ds e).e := by
      have := congrArg D.e ag
      exact this
    rw [e2]
    by_cases c : lz ds = ds.length
    · rw [nrm_zero c]; show (0 : Int) ≤ _; omega
    · rw [nrm_pos c]; exact h.2.2.2.2 c
end Sc
end Go.Proofs.YtjghlpkjbfaoiaaDoor
