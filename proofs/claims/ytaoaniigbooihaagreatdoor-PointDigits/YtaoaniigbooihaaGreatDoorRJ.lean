/-
  Texts put together: PoPlN, PoPl, PoPads, PoDig, FTab, PoCase, OpenSpc.
-/
import Derived.Test.YtaoaniigbooihaaGreatDoorRH
import Derived.Test.YtaoaniigbooihaaGreatDoorRK
import Derived.BigQuiet
import Derived.Test.YtaoaniigbooihaaGreatDoorNMem
import Derived.Test.YtaoaniigbooihaaGreatDoorRF
import Derived.Deep.DeepCutAuto
import Derived.Test.YtaoaniigbooihaaGreatDoorRC
import Derived.Lib.LaidTab
import Derived.Test.YtaoaniigbooihaaGreatDoorRows
import Derived.Lib.LaidCaseMet
import Derived.Deep.DeepWitnessRowRef
import Derived.Test.YtaoaniigbooihaaGreatDoorRE
import Derived.SizedLaws
import Derived.ProofKit
namespace Go.Proofs.YtaoaniigbooihaaGreatDoor
open Go Go.RowKit Go.Deep
namespace Po

/-- How many bytes stand behind the last point; -1 where there is none. -/
def nst (xs : List Int) : Int := xs.foldl (fun n x => if x = 46 then 0 else if 0 ≤ n then n + 1 else n) (-1)
theorem nst_snoc (xs : List Int) (x : Int) : nst (xs ++ [x]) = if x = 46 then 0 else if 0 ≤ nst xs then nst xs + 1 else nst xs := by
  unfold nst
  rw [List.foldl_append, List.foldl_cons, List.foldl_nil]
theorem nst_nil : nst [] = -1 := rfl
theorem nst_take {xs : List Int} {i : Nat} (h : i < xs.length) : nst (xs.take (i + 1)) = if xs.getD i 0 = 46 then 0 else if 0 ≤ nst (xs.take i) then nst (xs.take i) + 1 else nst (xs.take i) := by
  rw [List.take_add_one, ← nst_snoc]
  congr 2
  simp [h]
theorem nst_bd : ∀ (xs : List Int), -1 ≤ nst xs ∧ nst xs ≤ xs.length := by
  intro xs
  obtain ⟨n, hn⟩ : ∃ n, xs.length = n := ⟨_, rfl⟩
  induction n generalizing xs with
  | zero =>
    have : xs = [] := List.length_eq_zero_iff.1 hn
    subst this
    rw [nst_nil]; simp
  | succ n ih =>
    have e := Fx.take_last hn
    have k := ih (xs.take n) (by rw [List.length_take]; omega)
    rw [List.length_take] at k
    rw [e, nst_snoc, List.length_append, List.length_take]
    simp only [List.length_singleton]
    split
    · omega
    · split <;> omega
theorem nst_nodot {xs : List Int} (h : ∀ x ∈ xs, x ≠ 46) : nst xs = -1 := by
  have key : ∀ (l : List Int) (c : Int), c < 0 → (∀ x ∈ l, x ≠ 46) → l.foldl (fun n x => if x = 46 then 0 else if 0 ≤ n then n + 1 else n) c = c := by
    intro l
    induction l with
    | nil => intro c _ _; rfl
    | cons y l ih =>
      intro c hc hl
      rw [List.foldl_cons, if_neg (hl y (by simp)), if_neg (by omega)]
      exact ih c hc (fun x hx => hl x (by simp [hx]))
  exact key xs (-1) (by omega) h
theorem nst_dot {a b : List Int} (hb : ∀ x ∈ b, x ≠ 46) : nst (a ++ 46 :: b) = b.length := by
  have key : ∀ (l : List Int) (c : Int), 0 ≤ c → (∀ x ∈ l, x ≠ 46) → l.foldl (fun n x => if x = 46 then 0 else if 0 ≤ n then n + 1 else n) c = c + l.length := by
    intro l
    induction l with
    | nil => intro c _ _; simp
    | cons y l ih =>
      intro c hc hl
      rw [List.foldl_cons, if_neg (hl y (by simp)), if_pos (by omega), ih (c + 1) (by omega) (fun x hx => hl x (by simp [hx]))]
      simp; omega
  unfold nst
  rw [List.foldl_append, List.foldl_cons, if_pos rfl, key b 0 (by omega) hb]
  omega

/-- What stands ahead of an exponent. -/
def hd (a b : List Int) (h : Bool) : List Int := if b = [] ∧ h = false then a else a ++ 46 :: b
theorem wrt_hd (a b p : List Int) (h : Bool) : wrt a b p h = hd a b h ++ p := by
  unfold wrt hd
  split <;> simp
theorem nst_hd {g a b : List Int} {h : Bool} (hg : ∀ x ∈ g, x ≠ 46) (ha : Digs a) (hb : Digs b) : (if nst (g ++ hd a b h) < 0 then 0 else nst (g ++ hd a b h)) = b.length := by
  unfold hd
  split
  · next c =>
    rw [nst_nodot]
    · rw [c.1]; rfl
    · intro x hx
      rcases List.mem_append.1 hx with q | q
      · exact hg x q
      · have := ha x q; omega
  · rw [← List.append_assoc, nst_dot (fun x hx => by have := hb x hx; omega), if_neg (by omega)]
/-- No letter. -/
def noE (xs : List Int) : Prop := ∀ x ∈ xs, x ≠ 101 ∧ x ≠ 69
theorem noE_hd {g a b : List Int} {h : Bool} (hg : noE g) (ha : Digs a) (hb : Digs b) : noE (g ++ hd a b h) := by
  intro x hx
  rcases List.mem_append.1 hx with q | q
  · exact hg x q
  · unfold hd at q
    split at q
    · have := ha x q; omega
    · rcases List.mem_append.1 q with q | q
      · have := ha x q; omega
      · rcases List.mem_cons.1 q with rfl | q
        · omega
        · have := hb x q; omega

/-- The number behind an exponent's letter. -/
theorem cap_tx {v : Int} (h0 : 0 ≤ v) (h1 : v ≤ 400) : Sc.cap (Fx.tx (if v < 100 then 2 else 3) v) = v := by
  have key : ∀ t : Fin 401, Sc.cap (Fx.tx (if (t.val : Int) < 100 then 2 else 3) (t.val : Int)) = (t.val : Int) := by decide +kernel
  have := key ⟨v.toNat, by omega⟩
  simp only at this
  rw [show ((v.toNat : Nat) : Int) = v by omega] at this
  exact this
theorem digs_dg {xs : List Int} (h : Digs xs) : ∀ x ∈ xs, Sc.dg x = true := fun x hx => Sc.dg_iff.2 (h x hx)
theorem tail_nil : Sc.TailOk [] := ⟨rfl, by decide, rfl, by decide, by decide⟩
theorem tx_ne (v : Int) : Fx.tx (if v < 100 then 2 else 3) v ≠ [] := by
  intro c
  have : (Fx.tx (if v < 100 then 2 else 3) v).length = 0 := by rw [c]; rfl
  rw [Fx.tx_len] at this
  split at this <;> omega
theorem sg_xd (k : Int) : (if k < 0 then (45 : Int) else 43) :: [] = Sc.sgT (if k < 0 then 2 else 1) := by
  unfold Sc.sgT
  split <;> rfl
theorem exG_is {V k : Int} (h0 : -400 ≤ k) (h1 : k ≤ 400) : Sc.exG (some (if cap V = true then 69 else 101)) (if k < 0 then 2 else 1) (Fx.tx (if max k (-k) < 100 then 2 else 3) (max k (-k))) = ex V k := by
  unfold Sc.exG ex
  rw [xd_is h0 h1, ← sg_xd]
  rfl
theorem exV_is {k : Int} (c : Int) (h0 : -400 ≤ k) (h1 : k ≤ 400) : Sc.exV (some c) (if k < 0 then 2 else 1) (Sc.cap (Fx.tx (if max k (-k) < 100 then 2 else 3) (max k (-k)))) = k := by
  rw [cap_tx (by omega) (by omega)]
  unfold Sc.exV
  by_cases h : k < 0
  · simp [h]; omega
  · simp [h]; omega
theorem num_ex {V k : Int} (h0 : -400 ≤ k) (h1 : k ≤ 400) : Sc.num (49 :: ex V k) = (⟨false, [49], k⟩, (ex V k).length + 1) := by
  have q := Sc.gmade_num [] [49] [] [] 0 (if k < 0 then 2 else 1) false (some (if cap V = true then 69 else 101)) (Fx.tx (if max k (-k) < 100 then 2 else 3) (max k (-k))) (by simp) (by simp [Sc.dg]) (by simp) (by simp)
    (fun c hc => by have := Option.some.inj hc; split at this <;> omega) ⟨digs_dg (Fx.tx_digs _ _), tx_ne _⟩ tail_nil
  unfold Sc.gtx at q
  rw [exG_is h0 h1, exV_is _ h0 h1] at q
  have n : Sc.nrm false [49] k = ⟨false, [49], k⟩ := by
    rw [Sc.nrm_pos (by decide)]
    show Sc.D.mk false [49] (k + ((0 : Nat) : Int)) = _
    rw [show k + ((0 : Nat) : Int) = k by omega]
  simp [Sc.sgT] at q
  rw [n] at q
  rw [q]
end Po
end Go.Proofs.YtaoaniigbooihaaGreatDoor

namespace Go.Proofs.YtaoaniigbooihaaGreatDoor
open Go Go.RowKit Go.Deep Go.Shelf

theorem numb_any (xs : List Int) (w : World) (hx : Wh.By xs) (hl : xs.length ≤ 100000) :
    Calls Tryz.prog 34 #[.string (strOfNums xs)] w fun e w' => NumTold xs w e w' :=
  number_any _ xs w (Str.of_nums hx) (by omega) (fun _ => by have := Sc.lit_len xs (Sc.run Sc.bl xs 0); omega)

/-- What places tells. -/
def Po.pn (q : Int) : Int := if q < 0 then 0 else q
structure Po.PlI (xs : List Int) (j : Nat) (E : Int) : Prop where
  by_ : Wh.By xs
  len : xs.length ≤ 40000
  le : j ≤ xs.length
  no : ∀ i, i < j → xs.getD i 0 ≠ 101 ∧ xs.getD i 0 ≠ 69
  fin : (j = xs.length ∧ E = 0) ∨ (j < xs.length ∧ (xs.getD j 0 = 101 ∨ xs.getD j 0 = 69) ∧ Sc.num (49 :: xs.drop j) = (⟨false, [49], E⟩, xs.length - j + 1))

set_option maxRecDepth 100000 in
set_option maxHeartbeats 4000000 in
theorem pplaces_any (xs : List Int) (j : Nat) (E : Int) (w : World) (h : Po.PlI xs j E) :
    Calls Tryz.prog 17 #[.string (strOfNums xs)] w fun e w' => e = .returned (.tuple #[.int .i64 (Po.pn (Po.nst (xs.take j))), .int .i64 E]) ∧ Below w.heap.size w w' := by
  have HH := hid h
  have sz : (strOfNums xs).size = xs.length := strOfNums_size xs
  have AT : Hid (∀ t (k : t < (strOfNums xs).size), (((strOfNums xs)[t]'k).toNat : Int) = xs.getD t 0) := fun t k => (Str.of_nums h.by_).at t k
  have lb : (xs.length : Int) ≤ 40000 := by have := h.len; omega
  have NS := hid (fun t (k : t < xs.length) => Po.nst_take k)
  have NB := hid (fun t => Po.nst_bd (xs.take t))
  have PN : Hid (∀ q, Po.pn q = if q < 0 then 0 else q) := fun q => rfl
  have LE := hid h.le
  generalize hL : xs.length = L at *
  generalize hS : strOfNums xs = s at *
  clear h
  go_enter Tryz.func17, Tryz.ntmps17
  go_wp2_with fail
  go_loopg [4, 6] j (fun k n i wr => ∃ t : Nat, t + k = j ∧ n = .int .i64 (Po.nst (xs.take t)) ∧ i = .int .i64 (t : Int) ∧ wr = w)
  case atStart => exact ⟨0, by omega, rfl, rfl, rfl⟩
  case round =>
    obtain ⟨t, ht, rfl, rfl, hw⟩ := hrel
    have hw := hw.symm
    subst hw
    have nb := NB.out t
    obtain ⟨x, hx⟩ : ∃ x, xs.getD t 0 = x := ⟨_, rfl⟩
    have at' : ∀ k : t < s.size, ((s[t]'k).toNat : Int) = x := fun k => by rw [AT.out t k, hx]
    have n0 : -1 ≤ Po.nst (xs.take t) := nb.1
    have n1 : Po.nst (xs.take t) ≤ 40000 := by have := nb.2; rw [List.length_take] at this; omega
    by_cases hj : t < j
    · have htl : t < L := by have := LE.out; omega
      have hti : (t : Int) < (L : Int) := by omega
      have no := HH.out.no t hj
      rw [hx] at no
      have k1 : (x == 101) = false := by rw [beq_eq_false_iff_ne]; exact no.1
      have k2 : (x == 69) = false := by rw [beq_eq_false_iff_ne]; exact no.2
      have ns := NS.out t htl
      rw [hx] at ns
      by_cases h46 : x = 46
      · rw [if_pos h46] at ns
        have ns := hid ns
        have hx := hid hx
        subst h46
        clear nb no
        go_wp2_with fail
        go_roundg (j - (t + 1))
        case measure => omega
        case rel => exact ⟨t + 1, by omega, by rw [ns.out], by go_num, rfl⟩
      · rw [if_neg h46] at ns
        have k3 : (x == 46) = false := by rw [beq_eq_false_iff_ne]; exact h46
        by_cases hq : 0 ≤ Po.nst (xs.take t)
        · rw [if_pos hq] at ns
          have ns := hid ns
          have hx := hid hx
          clear nb no h46
          generalize Po.nst (xs.take t) = q at *
          go_wp2_with fail
          go_roundg (j - (t + 1))
          case measure => omega
          case rel => exact ⟨t + 1, by omega, by rw [ns.out], by go_num, rfl⟩
        · rw [if_neg hq] at ns
          have ns := hid ns
          have hx := hid hx
          clear nb no h46
          generalize Po.nst (xs.take t) = q at *
          go_wp2_with fail
          go_roundg (j - (t + 1))
          case measure => omega
          case rel => exact ⟨t + 1, by omega, by rw [ns.out], by go_num, rfl⟩
    · have htj : t = j := by omega
      subst htj
      have pn := PN.out (Po.nst (xs.take t))
      rcases HH.out.fin with ⟨e1, e2⟩ | ⟨e1, e2, e3⟩
      · rw [hL] at e1
        have hti : ¬ (t : Int) < (L : Int) := by omega
        subst e2
        have B := hid (Below.refl w.heap.size w)
        have hx := hid hx
        clear nb hj HH e1
        by_cases hq : Po.nst (xs.take t) < 0
        · rw [if_pos hq] at pn
          replace pn := hid pn
          generalize hqq : Po.nst (xs.take t) = q at n0 n1 hq ⊢
          replace hqq := hid hqq
          go_wp2_with fail
          go_ret2
          exact ⟨by first | (rw [pn.out]; rfl) | (rw [pn.out, hqq.out]; rfl), B.out⟩
        · rw [if_neg hq] at pn
          replace pn := hid pn
          generalize hqq : Po.nst (xs.take t) = q at n0 n1 hq ⊢
          replace hqq := hid hqq
          go_wp2_with fail
          go_ret2
          exact ⟨by first | (rw [pn.out]; rfl) | (rw [pn.out, hqq.out]; rfl), B.out⟩
      · rw [hL] at e1 e3
        rw [hx] at e2
        have hti : (t : Int) < (L : Int) := by omega
        have DR : Str (s.extract t L) (xs.drop t) := by
          have q := (Str.of_nums HH.out.by_).extract t L
          rw [hS, List.take_of_length_le (by rw [List.length_drop]; omega)] at q
          exact q
        have DB : Wh.By (49 :: xs.drop t) := Wh.By.cons (by omega) (fun y hy => HH.out.by_ y (List.mem_of_mem_drop hy))
        have dz : ((s.extract t L).size : Int) ≤ 40000 := by rw [DR.size, List.length_drop]; omega
        have NM : Hid (∀ wk, Calls Tryz.prog 34 #[.string ((⟨#[49]⟩ : ByteArray) ++ s.extract t L)] wk fun e w' => ∃ q, e = .returned (.tuple #[.agg #[.bool false, .string q, .int .i64 E], .int .i64 ((L : Int) - t + 1)]) ∧ Below wk.heap.size wk w') := by
          intro wk
          have e : (⟨#[49]⟩ : ByteArray) ++ s.extract t L = strOfNums (49 :: xs.drop t) := str_is (Str.app (show Str ⟨#[49]⟩ [49] from rfl) DR)
          rw [e]
          refine (numb_any _ wk DB (by rw [List.length_cons, List.length_drop]; omega)).mono ?_
          rintro e w' ⟨v, rfl, hv, hB⟩
          rw [e3] at hv ⊢
          obtain ⟨q, rfl, hq⟩ := hv
          refine ⟨q, ?_, hB⟩
          show Ending.returned (.tuple #[.agg #[.bool false, .string q, .int .i64 E], .int .i64 ((L - t + 1 : Nat) : Int)]) = _
          rw [show ((L - t + 1 : Nat) : Int) = (L : Int) - t + 1 by omega]
        have hx := hid hx
        clear nb hj HH e1 DR DB e3
        rcases e2 with rfl | rfl
        · by_cases hq : Po.nst (xs.take t) < 0
          · rw [if_pos hq] at pn
            replace pn := hid pn
            generalize hqq : Po.nst (xs.take t) = q at n0 n1 hq ⊢
            replace hqq := hid hqq
            go_wp2_with fail
            with_reducible refine (NM.out _).mono ?_
            rintro e w1 ⟨q1, rfl, b1⟩
            have A1 := hid (below_on b1 (alloc_b w1 (.cells #[.bool false, .string q1, .int .i64 E] 39)))
            have A2 : Hid (∀ k, Below w.heap.size w ((w1.alloc (.cells #[.bool false, .string q1, .int .i64 E] 39)).drewN k)) := fun k => below_drewN A1.out k
            clear b1 NM
            go_upto_region 14 with fail
            go_quiet (fail)
            go_wp2_with fail
            go_ret2
            exact ⟨by first | (rw [pn.out]; rfl) | (rw [pn.out, hqq.out]; rfl), A2.out _⟩
          · rw [if_neg hq] at pn
            replace pn := hid pn
            generalize hqq : Po.nst (xs.take t) = q at n0 n1 hq ⊢
            replace hqq := hid hqq
            go_wp2_with fail
            with_reducible refine (NM.out _).mono ?_
            rintro e w1 ⟨q1, rfl, b1⟩
            have A1 := hid (below_on b1 (alloc_b w1 (.cells #[.bool false, .string q1, .int .i64 E] 39)))
            have A2 : Hid (∀ k, Below w.heap.size w ((w1.alloc (.cells #[.bool false, .string q1, .int .i64 E] 39)).drewN k)) := fun k => below_drewN A1.out k
            clear b1 NM
            go_upto_region 14 with fail
            go_quiet (fail)
            go_wp2_with fail
            go_ret2
            exact ⟨by first | (rw [pn.out]; rfl) | (rw [pn.out, hqq.out]; rfl), A2.out _⟩
        · by_cases hq : Po.nst (xs.take t) < 0
          · rw [if_pos hq] at pn
            replace pn := hid pn
            generalize hqq : Po.nst (xs.take t) = q at n0 n1 hq ⊢
            replace hqq := hid hqq
            go_wp2_with fail
            with_reducible refine (NM.out _).mono ?_
            rintro e w1 ⟨q1, rfl, b1⟩
            have A1 := hid (below_on b1 (alloc_b w1 (.cells #[.bool false, .string q1, .int .i64 E] 39)))
            have A2 : Hid (∀ k, Below w.heap.size w ((w1.alloc (.cells #[.bool false, .string q1, .int .i64 E] 39)).drewN k)) := fun k => below_drewN A1.out k
            clear b1 NM
            go_upto_region 14 with fail
            go_quiet (fail)
            go_wp2_with fail
            go_ret2
            exact ⟨by first | (rw [pn.out]; rfl) | (rw [pn.out, hqq.out]; rfl), A2.out _⟩
          · rw [if_neg hq] at pn
            replace pn := hid pn
            generalize hqq : Po.nst (xs.take t) = q at n0 n1 hq ⊢
            replace hqq := hid hqq
            go_wp2_with fail
            with_reducible refine (NM.out _).mono ?_
            rintro e w1 ⟨q1, rfl, b1⟩
            have A1 := hid (below_on b1 (alloc_b w1 (.cells #[.bool false, .string q1, .int .i64 E] 39)))
            have A2 : Hid (∀ k, Below w.heap.size w ((w1.alloc (.cells #[.bool false, .string q1, .int .i64 E] 39)).drewN k)) := fun k => below_drewN A1.out k
            clear b1 NM
            go_upto_region 14 with fail
            go_quiet (fail)
            go_wp2_with fail
            go_ret2
            exact ⟨by first | (rw [pn.out]; rfl) | (rw [pn.out, hqq.out]; rfl), A2.out _⟩

/-- The place and the exponent of what Render writes. -/
theorem Po.pl_text {V k : Int} {g a b : List Int} {h : Bool} (hg : ∀ x ∈ g, x = 45) (gl : g.length ≤ 1) (ha : Digs a) (hb : Digs b) (la : a.length ≤ 10000) (lb : b.length ≤ 10000) (h0 : -400 ≤ k) (h1 : k ≤ 400) :
    Po.PlI (g ++ Po.wrt a b (Po.ex V k) h) (g ++ Po.hd a b h).length k ∧ Po.pn (Po.nst ((g ++ Po.wrt a b (Po.ex V k) h).take (g ++ Po.hd a b h).length)) = b.length := by
  have e : g ++ Po.wrt a b (Po.ex V k) h = (g ++ Po.hd a b h) ++ Po.ex V k := by rw [Po.wrt_hd, List.append_assoc]
  have nE := Po.noE_hd (g := g) (h := h) (fun x hx => by have := hg x hx; omega) ha hb
  have hl : (Po.hd a b h).length ≤ a.length + b.length + 1 := by
    unfold Po.hd
    split
    · omega
    · rw [List.length_append, List.length_cons]; omega
  have xl := Po.ex_len (V := V) h0 h1
  rw [e]
  have x0 : (Po.ex V k).getD 0 0 = if Po.cap V = true then 69 else 101 := rfl
  have xp : 0 < (Po.ex V k).length := by simp [Po.ex]
  refine ⟨⟨?_, by simp only [List.length_append]; omega, by simp, ?_, .inr ⟨by simp only [List.length_append]; omega, ?_, ?_⟩⟩, ?_⟩
  · exact ((Wh.By.app (fun x hx => by have := hg x hx; omega) (by unfold Po.hd; split; exact Po.digs_by ha; exact (Po.digs_by ha).app (Wh.By.cons (by omega) (Po.digs_by hb))))).app (Po.ex_by _ _)
  · intro i hi
    have : (g ++ Po.hd a b h ++ Po.ex V k).getD i 0 = (g ++ Po.hd a b h).getD i 0 := by rw [List.getD_eq_getElem?_getD, List.getD_eq_getElem?_getD, List.getElem?_append_left hi]
    rw [this]
    have m : (g ++ Po.hd a b h).getD i 0 ∈ g ++ Po.hd a b h := by simp [List.getD, List.getElem?_eq_getElem hi]
    exact nE _ m
  · have : (g ++ Po.hd a b h ++ Po.ex V k).getD (g ++ Po.hd a b h).length 0 = (Po.ex V k).getD 0 0 := by simp [List.getD, List.getElem?_append_right]
    rw [this, x0]
    split
    · exact .inr rfl
    · exact .inl rfl
  · rw [List.drop_left, Po.num_ex h0 h1, List.length_append, Nat.add_sub_cancel_left]
  · rw [List.take_left]
    exact Po.nst_hd (fun x hx => by have := hg x hx; omega) ha hb
/-- The same without an exponent. -/
theorem Po.pl_text0 {g a b : List Int} {h : Bool} (hg : ∀ x ∈ g, x = 45) (gl : g.length ≤ 1) (ha : Digs a) (hb : Digs b) (la : a.length ≤ 10000) (lb : b.length ≤ 10000) :
    Po.PlI (g ++ Po.wrt a b [] h) (g ++ Po.hd a b h).length 0 ∧ Po.pn (Po.nst ((g ++ Po.wrt a b [] h).take (g ++ Po.hd a b h).length)) = b.length := by
  have e : g ++ Po.wrt a b [] h = g ++ Po.hd a b h := by rw [Po.wrt_hd, List.append_nil]
  have nE := Po.noE_hd (g := g) (h := h) (fun x hx => by have := hg x hx; omega) ha hb
  have hl : (Po.hd a b h).length ≤ a.length + b.length + 1 := by
    unfold Po.hd
    split
    · omega
    · rw [List.length_append, List.length_cons]; omega
  rw [e]
  refine ⟨⟨?_, by simp only [List.length_append]; omega, Nat.le_refl _, ?_, .inl ⟨rfl, rfl⟩⟩, ?_⟩
  · exact Wh.By.app (fun x hx => by have := hg x hx; omega) (by unfold Po.hd; split; exact Po.digs_by ha; exact (Po.digs_by ha).app (Wh.By.cons (by omega) (Po.digs_by hb)))
  · intro i hi
    have m : (g ++ Po.hd a b h).getD i 0 ∈ g ++ Po.hd a b h := by simp [List.getD, List.getElem?_eq_getElem hi]
    exact nE _ m
  · rw [List.take_length]
    exact Po.nst_hd (fun x hx => by have := hg x hx; omega) ha hb

set_option maxRecDepth 100000 in
theorem pjoined_any (a b : List Int) (h : Bool) (w : World) (ha : Wh.By a) (hb : Wh.By b) (la : a.length ≤ 10000) (lb : b.length ≤ 10000) :
    Calls Tryz.prog 24 #[.string (strOfNums a), .string (strOfNums b), .bool h] w fun e w' => e = .returned (.string (strOfNums (Po.hd a b h))) ∧ w' = w := by
  have sa : (strOfNums a).size = a.length := strOfNums_size a
  have sb : (strOfNums b).size = b.length := strOfNums_size b
  have SA := Str.of_nums ha
  have SB := Str.of_nums hb
  have na : ((strOfNums a).size : Int) ≤ 10000 := by rw [sa]; omega
  have nb : ((strOfNums b).size : Int) ≤ 10000 := by rw [sb]; omega
  have EI := isEmpty_nums b
  have EJ := toList_nums b
  have E1 : Hid (b = [] → h = false → strOfNums a = strOfNums (Po.hd a b h)) := fun h1 h2 => by rw [Po.hd, if_pos ⟨h1, h2⟩]
  have E2 : Hid (¬ (b = [] ∧ h = false) → strOfNums a ++ ⟨#[46]⟩ ++ strOfNums b = strOfNums (Po.hd a b h)) := fun hc => by
    rw [Po.hd, if_neg hc]
    have q : Str (strOfNums a ++ ⟨#[46]⟩ ++ strOfNums b) (a ++ [46] ++ b) := (SA.app (show Str ⟨#[46]⟩ [46] from rfl)).app SB
    rw [str_is q]
    simp
  clear SA SB sa sb la lb ha hb
  cases b with
  | nil =>
    rw [show (([] : List Int).isEmpty) = true from rfl] at EI EJ
    cases h with
    | false =>
      have E := hid (E1.out rfl rfl)
      clear E1 E2
      generalize Po.hd a [] false = R at *
      go_enter Tryz.func24, Tryz.ntmps24
      go_wp2_with fail
      go_ret
      exact ⟨ret_str E.out, rfl⟩
    | true =>
      have E := hid (E2.out (fun q => Bool.false_ne_true q.2.symm))
      clear E1 E2
      generalize Po.hd a [] true = R at *
      go_enter Tryz.func24, Tryz.ntmps24
      go_wp2_with fail
      go_ret
      exact ⟨ret_str E.out, rfl⟩
  | cons y l =>
    rw [show ((y :: l).isEmpty) = false from rfl] at EI EJ
    have E := hid (E2.out (fun q => by cases q.1))
    clear E1 E2
    generalize Po.hd a (y :: l) h = R at *
    generalize strOfNums (y :: l) = B at *
    go_enter Tryz.func24, Tryz.ntmps24
    go_wp2_with fail
    go_ret
    exact ⟨ret_str E.out, rfl⟩
end Go.Proofs.YtaoaniigbooihaaGreatDoor

namespace Go.Proofs.YtaoaniigbooihaaGreatDoor
open Go Go.RowKit Go.Deep Go.Shelf

namespace Po
theorem bits_pads {F : Int} (h0 : 0 ≤ F) (h1 : F ≤ 31) : (bits .and .i64 F 17 == 16) = (Wh.bit F 16 && !Wh.bit F 1) ∧ (bits .and .i64 F 1 != 0) = Wh.bit F 1 ∧ (0 ≤ bits .andNot .i64 F 16 ∧ bits .andNot .i64 F 16 ≤ 31) ∧ Wh.bit (bits .andNot .i64 F 16) 2 = Wh.bit F 2 ∧ Wh.bit (bits .andNot .i64 F 16) 4 = Wh.bit F 4 ∧ Wh.bit (bits .andNot .i64 F 16) 8 = Wh.bit F 8 := by
  have key : ∀ t : Fin 32, (bits .and .i64 (t.val : Int) 17 == 16) = (Wh.bit (t.val : Int) 16 && !Wh.bit (t.val : Int) 1) ∧ (bits .and .i64 (t.val : Int) 1 != 0) = Wh.bit (t.val : Int) 1 ∧ (0 ≤ bits .andNot .i64 (t.val : Int) 16 ∧ bits .andNot .i64 (t.val : Int) 16 ≤ 31) ∧ Wh.bit (bits .andNot .i64 (t.val : Int) 16) 2 = Wh.bit (t.val : Int) 2 ∧ Wh.bit (bits .andNot .i64 (t.val : Int) 16) 4 = Wh.bit (t.val : Int) 4 ∧ Wh.bit (bits .andNot .i64 (t.val : Int) 16) 8 = Wh.bit (t.val : Int) 8 := by decide
  have := key ⟨F.toNat, by omega⟩
  simp only at this
  rw [show ((F.toNat : Nat) : Int) = F by omega] at this
  exact this
/-- The filling so far. -/
def fl (c : Int) (n j : Nat) : List Int := List.replicate j c ++ List.replicate (n - j) 0
theorem fl_len {c : Int} {n j : Nat} (h : j ≤ n) : (fl c n j).length = n := by simp [fl]; omega
theorem fl_set {c x : Int} {n j : Nat} (h : j < n) : ((fl c n j).set j x) = List.replicate j c ++ x :: List.replicate (n - (j + 1)) 0 := by
  unfold fl
  rw [List.set_append, if_neg (by simp), List.length_replicate, Nat.sub_self]
  obtain ⟨m, hm⟩ : ∃ m, n - j = m + 1 := ⟨n - j - 1, by omega⟩
  rw [hm, List.replicate_succ, List.set_cons_zero, show n - (j + 1) = m by omega]
theorem fl_one {c : Int} {n j : Nat} (h : j < n) : (fl c n j).set j c = fl c n (j + 1) := by
  rw [fl_set h]
  unfold fl
  rw [List.replicate_succ', List.append_assoc]; rfl
theorem fl_two {c x : Int} {n j : Nat} (h : j < n) : ((fl c n j).set j x).set j c = fl c n (j + 1) := by
  rw [List.set_set, fl_one h]
theorem fl_end (c : Int) (n : Nat) : fl c n n = Wh.rep c (n : Int) := by simp [fl, Wh.rep]

/-- The text behind a width. -/
theorem pads_eq {V F W P d : Int} (h : renE V F W P = 0) :
    ∃ L : Nat, (Wh.sgn F (ng d) ++ tb V F P d).length = L ∧ 1 ≤ L ∧ L ≤ 20001 ∧
    (W - L ≤ 0 → ren V F W P d = Wh.sgn F (ng d) ++ tb V F P d) ∧
    (Wh.bit F 1 = true → ren V F W P d = Wh.sgn F (ng d) ++ tb V F P d ++ Wh.rep 32 (W - L)) ∧
    (Wh.bit F 1 = false → Wh.bit F 16 = true → Ie.fnt d = true → ren V F W P d = (Wh.sgn F (ng d) ++ tb V F P d).take (Wh.sgn F (ng d)).length ++ Wh.rep 48 (W - L) ++ (Wh.sgn F (ng d) ++ tb V F P d).drop (Wh.sgn F (ng d)).length) ∧
    (Wh.bit F 1 = false → (Wh.bit F 16 = false ∨ Ie.fnt d = false) → ren V F W P d = Wh.rep 32 (W - L) ++ (Wh.sgn F (ng d) ++ tb V F P d)) := by
  obtain ⟨-, b⟩ := renE_ok h
  obtain ⟨f, w, p⟩ := Wh.chk_ok b
  have k := tb_ok (V := V) (F := F) (d := d) p.1 p.2
  obtain ⟨x, ys, hx, -⟩ := tb_head (V := V) (F := F) (d := d) p.1 p.2
  have s := Wh.sgn_len F (ng d)
  have tl : 1 ≤ (tb V F P d).length := by rw [hx]; simp
  rw [ren_pad h]
  refine ⟨_, rfl, by rw [List.length_append]; omega, by rw [List.length_append]; omega, ?_, ?_, ?_, ?_⟩
  all_goals rw [List.length_append]
  · intro c
    have e : ∀ q, Wh.rep q (W - ((Wh.sgn F (ng d)).length : Int) - ((tb V F P d).length : Int)) = [] := fun q => Wh.rep_neg (by omega)
    unfold Wh.padT
    rw [e, e]
    split
    · simp
    · split <;> simp
  · intro c
    unfold Wh.padT
    rw [if_pos c, show W - ((Wh.sgn F (ng d)).length : Int) - ((tb V F P d).length : Int) = W - (((Wh.sgn F (ng d)).length + (tb V F P d).length : Nat) : Int) by omega]
  · intro c1 c2 c3
    unfold Wh.padT
    rw [if_neg (by rw [c1]; decide), if_pos ⟨c2, c3⟩, show W - ((Wh.sgn F (ng d)).length : Int) - ((tb V F P d).length : Int) = W - (((Wh.sgn F (ng d)).length + (tb V F P d).length : Nat) : Int) by omega]
    simp
  · intro c1 c2
    unfold Wh.padT
    rw [if_neg (by rw [c1]; decide), if_neg (by rintro ⟨q1, q2⟩; rcases c2 with c | c <;> simp [c] at q1 q2), show W - ((Wh.sgn F (ng d)).length : Int) - ((tb V F P d).length : Int) = W - (((Wh.sgn F (ng d)).length + (tb V F P d).length : Nat) : Int) by omega]
    simp
/-- The first byte tells whether a sign stands there. -/
theorem pads_head {V F P d : Int} (p0 : -1 ≤ P) (p1 : P ≤ 4096) : ∃ x, (Wh.sgn F (ng d) ++ tb V F P d).getD 0 0 = x ∧ (0 ≤ x ∧ x < 256) ∧
    ((x = 45 ∧ (Wh.sgn F (ng d)).length = 1) ∨ (x = 43 ∧ (Wh.sgn F (ng d)).length = 1) ∨ (x = 32 ∧ (Wh.sgn F (ng d)).length = 1) ∨ (48 ≤ x ∧ (Wh.sgn F (ng d)).length = 0)) := by
  obtain ⟨y, ys, hx, a, b⟩ := tb_head (V := V) (F := F) (d := d) p0 p1
  unfold Wh.sgn
  split
  · exact ⟨45, rfl, by omega, .inl ⟨rfl, rfl⟩⟩
  · split
    · exact ⟨43, rfl, by omega, .inr (.inl ⟨rfl, rfl⟩)⟩
    · split
      · exact ⟨32, rfl, by omega, .inr (.inr (.inl ⟨rfl, rfl⟩))⟩
      · exact ⟨y, by rw [hx]; rfl, by omega, .inr (.inr (.inr ⟨a, rfl⟩))⟩
end Po

theorem ownb_str {g n : Nat} {W : World} {fs : List Int} (o : OwnB W g fs) (hn : fs.length = n) :
    (convert 47 9 (.slice (some ⟨g, 0, none⟩) n n)).run Tryz.prog W = .ok (.string (strOfNums fs)) W :=
  run_convert_bytes_arg (P := Tryz.prog) W 47 5 Tryz.underlying47 Tryz.underlying5 g 0 n n fs hn (fun i hi => by rw [Nat.zero_add, o.cell i (by omega)]) 9 Tryz.underlying9
end Go.Proofs.YtaoaniigbooihaaGreatDoor

namespace Go.Proofs.YtaoaniigbooihaaGreatDoor
open Go Go.RowKit Go.Deep Go.Shelf

set_option maxRecDepth 100000 in
theorem pbare_any (V F W P : Int) (w : World) :
    Calls Tryz.prog 22 #[.agg #[.int .u8 V, .int .i64 F, .int .i64 W, .int .i64 P]] w fun e w' => e = .returned (.agg #[.int .u8 V, .int .i64 (bits .and .i64 F 8), .int .i64 0, .int .i64 P]) ∧ Below w.heap.size w w' := by
  have B : Hid (Below w.heap.size w ((w.alloc (.cells #[.int .u8 V, .int .i64 F, .int .i64 W, .int .i64 P] 25)).alloc (.cells #[.int .u8 V, .int .i64 (bits .and .i64 F 8), .int .i64 0, .int .i64 P] 25))) := below_on (alloc_b _ _) (alloc_b _ _)
  have N : S4 ((w.alloc (.cells #[.int .u8 V, .int .i64 F, .int .i64 W, .int .i64 P] 25)).alloc (.cells #[.int .u8 V, .int .i64 (bits .and .i64 F 8), .int .i64 0, .int .i64 P] 25)) (w.heap.size + 1) (.int .u8 V) (.int .i64 (bits .and .i64 F 8)) (.int .i64 0) (.int .i64 P) := heap_alloc2_new _ _ _
  replace N := hid N
  go_enter Tryz.func22, Tryz.ntmps22
  go_wp2_with fail
  (try simp only [Exit.inBlock, Exit.then])
  refine bodyPost_ret (results_cell_row rfl _ _ (w.heap.size + 1) 25 _ (0, 0) _ rfl N.out Tryz.underlying25 rfl (by kernel_rfl)) rfl ?_
  exact ⟨rfl, B.out⟩

namespace Po
theorem bits_dig {F : Int} (h0 : 0 ≤ F) (h1 : F ≤ 31) : (bits .and .i64 F 8 != 0) = Wh.bit F 8 ∧ (0 ≤ bits .and .i64 F 8 ∧ bits .and .i64 F 8 ≤ 31) ∧ Wh.bit (bits .and .i64 F 8) 2 = false ∧ Wh.bit (bits .and .i64 F 8) 4 = false ∧ Wh.bit (bits .and .i64 F 8) 8 = Wh.bit F 8 := by
  have key : ∀ t : Fin 32, (bits .and .i64 (t.val : Int) 8 != 0) = Wh.bit (t.val : Int) 8 ∧ (0 ≤ bits .and .i64 (t.val : Int) 8 ∧ bits .and .i64 (t.val : Int) 8 ≤ 31) ∧ Wh.bit (bits .and .i64 (t.val : Int) 8) 2 = false ∧ Wh.bit (bits .and .i64 (t.val : Int) 8) 4 = false ∧ Wh.bit (bits .and .i64 (t.val : Int) 8) 8 = Wh.bit (t.val : Int) 8 := by decide
  have := key ⟨F.toNat, by omega⟩
  simp only at this
  rw [show ((F.toNat : Nat) : Int) = F by omega] at this
  exact this
theorem fnt_mod (d : Int) : Ie.fnt (d % 9223372036854775808) = Ie.fnt d := by
  rw [← fnt_abs, ← fnt_abs, Int.emod_emod_of_dvd _ (Int.dvd_refl _)]
/-- What a bare Spec renders. -/
theorem bare_ren {V F P D : Int} (hV : okV V = true) (h0 : 0 ≤ F) (h1 : F ≤ 31) (p0 : -1 ≤ P) (p1 : P ≤ 4096) (hf : Ie.fnt D = true) (hn : D < 9223372036854775808) :
    renE V (bits .and .i64 F 8) 0 P = 0 ∧ ren V (bits .and .i64 F 8) 0 P D = bd V (Wh.bit F 8) P D := by
  obtain ⟨-, ⟨g0, g1⟩, b2, b4, b8⟩ := bits_dig h0 h1
  have e : renE V (bits .and .i64 F 8) 0 P = 0 := by
    unfold renE
    rw [if_pos hV]
    exact Wh.chk_of ⟨⟨g0, g1⟩, by omega, ⟨p0, p1⟩⟩
  refine ⟨e, ?_⟩
  rw [ren_pad e, Wh.padT_zero]
  have s : Wh.sgn (bits .and .i64 F 8) (ng D) = [] := by
    unfold Wh.sgn ng
    rw [if_neg (by simpa using hn), b2, if_neg Bool.false_ne_true, b4, if_neg Bool.false_ne_true]
  rw [s, List.nil_append, tb, if_pos hf, b8]
end Po

set_option maxRecDepth 100000 in
set_option maxHeartbeats 8000000 in
theorem digits_law (V F W P d : Int) (w : World) (hT : Tab w) (v0 : 0 ≤ V) (v1 : V < 256) (h0 : 0 ≤ d) (_h1 : d < 18446744073709551616) :
    Calls Tryz.prog 6 #[.agg #[.int .u8 V, .int .i64 F, .int .i64 W, .int .i64 P], .int .u64 d] w fun e w' => e = .returned (.bool true) ∧ Below w.heap.size w w' := by
  have B0 := hid (SB.new w V F W P)
  have TB : Hid (∀ wk, Below w.heap.size w wk → Tab wk) := fun wk k => hT.below k
  have AW := hid (fun wk (k : Tab wk) => pawake_any wk k)
  have WR := hid (fun wk => pwrong_any V F W P wk)
  have BR := hid (fun wk => pbare_any V F W P wk)
  obtain ⟨D, hD⟩ : ∃ D, d % 9223372036854775808 = D := ⟨_, rfl⟩
  have D0 : 0 ≤ D := by omega
  have D1 : D < 9223372036854775808 := by omega
  have FN := hid (fun wk => plfin_any D wk D0 (by omega))
  have RN := hid (fun wk (k : Tab wk) => render_any V (bits .and .i64 F 8) 0 P D wk k v0 v1 D0 (by omega))
  unfold RenTold at RN
  have K0 := hid (TB.out _ B0.out.bel)
  by_cases hE : Po.renE V F W P = 0
  · obtain ⟨hV, hc⟩ := Po.renE_ok hE
    obtain ⟨⟨f0, f1⟩, -, ⟨p0, p1⟩⟩ := Wh.chk_ok hc
    rw [hE] at WR
    by_cases hf : Ie.fnt D = true
    · obtain ⟨r1, r2⟩ := Po.bare_ren (V := V) (P := P) hV f0 f1 p0 p1 hf D1
      obtain ⟨bh, -⟩ := Po.bits_dig f0 f1
      rw [r1, r2] at RN
      rw [hf] at FN
      obtain ⟨q0, q1⟩ := Po.pr_bd p0 p1
      have hV := of_decide_eq_true hV
      rcases (show (V = 102 ∨ V = 70) ∨ (V = 101 ∨ V = 69) ∨ (V = 103 ∨ V = 71) by omega) with hv | hv | hv
      · have K := Po.plF hf q0 (by omega)
        have PL := hid (fun wk (k : Tab wk) => plx_any D (Po.pr P) wk k D0 (by omega))
        rw [K.ok] at PL
        have e1 : Po.bd V (Wh.bit F 8) P D = Po.hd (Fx.pA D (Po.pr P)) (Fx.pB D (Po.pr P)) (Wh.bit F 8) := by rw [Po.bd, if_pos hv, Po.bdF, Po.wrt_hd, List.append_nil]
        rw [e1] at RN
        have JN := hid (fun wk => pjoined_any (Fx.pA D (Po.pr P)) (Fx.pB D (Po.pr P)) (Wh.bit F 8) wk (Po.digs_by K.a) (Po.digs_by K.b) (by have := K.la; omega) (by have := K.lb; omega))
        have PR : Hid (Po.pr P = if P = -1 then 6 else P) := rfl
        clear hT v0 v1 hE hc hV f0 f1 r1 r2 e1 K hf
        generalize Po.hd (Fx.pA D (Po.pr P)) (Fx.pB D (Po.pr P)) (Wh.bit F 8) = R at *
        generalize Fx.pA D (Po.pr P) = A at *
        generalize Fx.pB D (Po.pr P) = C at *
        generalize Wh.bit F 8 = hh at *
        generalize Po.pr P = pp at *
        rcases hv with rfl | rfl
        · by_cases hP : P = -1
          · have e6 : pp = 6 := by rw [PR.out, if_pos hP]
            subst e6
            subst hP
            clear PR
            go_enter Tryz.func6, Tryz.ntmps6
            go_wp2_with fail
            with_reducible refine (AW.out _ K0.out).mono ?_
            rintro e w1 ⟨rfl, b1⟩
            have B1 := hid (B0.out.on b1)
            clear b1 B0 K0
            obtain ⟨c0, c1, c2, c3⟩ := B1.out.flat
            go_wp2_with fail
            with_reducible refine (WR.out _).mono ?_
            rintro e w2 ⟨rfl, b2⟩
            have B2 := hid (B1.out.on b2)
            clear b2 B1 c0 c1 c2 c3
            obtain ⟨c0, c1, c2, c3⟩ := B2.out.flat
            go_wp2_with fail
            with_reducible refine (BR.out _).mono ?_
            rintro e w3 ⟨rfl, b3⟩
            have B3 := hid (B2.out.on b3)
            have K3 := hid (TB.out _ B3.out.bel)
            clear b3 B2 c0 c1 c2 c3
            go_wp2_with fail
            with_reducible refine (RN.out _ K3.out).mono ?_
            rintro e w4 ⟨rfl, b4⟩
            have B4 := hid (B3.out.on b4)
            have K4 := hid (TB.out _ B4.out.bel)
            clear b4 B3 K3
            obtain ⟨c0, c1, c2, c3⟩ := B4.out.flat
            go_wp2_with (go_at_call 14; refine (FN.out _).mono ?_; rintro e w' ⟨rfl, hw⟩; rw [hw]; clear hw w')
            with_reducible refine (PL.out _ K4.out).mono ?_
            rintro e w5 ⟨rfl, b5⟩
            have B5 := hid (B4.out.on b5)
            clear b5 B4 c0 c1 c2 c3
            go_wp2_with (go_at_call 24; refine (JN.out _).mono ?_; rintro e w' ⟨rfl, hw⟩; rw [hw]; clear hw w')
            go_ret
            exact ⟨rfl, B5.out.bel⟩
          · have e6 : P = pp := by rw [PR.out, if_neg hP]
            have hne : (pp == -1) = false := by rw [← e6]; simpa using hP
            subst e6
            clear PR hP
            go_enter Tryz.func6, Tryz.ntmps6
            go_wp2_with fail
            with_reducible refine (AW.out _ K0.out).mono ?_
            rintro e w1 ⟨rfl, b1⟩
            have B1 := hid (B0.out.on b1)
            clear b1 B0 K0
            obtain ⟨c0, c1, c2, c3⟩ := B1.out.flat
            go_wp2_with fail
            with_reducible refine (WR.out _).mono ?_
            rintro e w2 ⟨rfl, b2⟩
            have B2 := hid (B1.out.on b2)
            clear b2 B1 c0 c1 c2 c3
            obtain ⟨c0, c1, c2, c3⟩ := B2.out.flat
            go_wp2_with fail
            with_reducible refine (BR.out _).mono ?_
            rintro e w3 ⟨rfl, b3⟩
            have B3 := hid (B2.out.on b3)
            have K3 := hid (TB.out _ B3.out.bel)
            clear b3 B2 c0 c1 c2 c3
            go_wp2_with fail
            with_reducible refine (RN.out _ K3.out).mono ?_
            rintro e w4 ⟨rfl, b4⟩
            have B4 := hid (B3.out.on b4)
            have K4 := hid (TB.out _ B4.out.bel)
            clear b4 B3 K3
            obtain ⟨c0, c1, c2, c3⟩ := B4.out.flat
            go_wp2_with (go_at_call 14; refine (FN.out _).mono ?_; rintro e w' ⟨rfl, hw⟩; rw [hw]; clear hw w')
            with_reducible refine (PL.out _ K4.out).mono ?_
            rintro e w5 ⟨rfl, b5⟩
            have B5 := hid (B4.out.on b5)
            clear b5 B4 c0 c1 c2 c3
            go_wp2_with (go_at_call 24; refine (JN.out _).mono ?_; rintro e w' ⟨rfl, hw⟩; rw [hw]; clear hw w')
            go_ret
            exact ⟨rfl, B5.out.bel⟩
        · by_cases hP : P = -1
          · have e6 : pp = 6 := by rw [PR.out, if_pos hP]
            subst e6
            subst hP
            clear PR
            go_enter Tryz.func6, Tryz.ntmps6
            go_wp2_with fail
            with_reducible refine (AW.out _ K0.out).mono ?_
            rintro e w1 ⟨rfl, b1⟩
            have B1 := hid (B0.out.on b1)
            clear b1 B0 K0
            obtain ⟨c0, c1, c2, c3⟩ := B1.out.flat
            go_wp2_with fail
            with_reducible refine (WR.out _).mono ?_
            rintro e w2 ⟨rfl, b2⟩
            have B2 := hid (B1.out.on b2)
            clear b2 B1 c0 c1 c2 c3
            obtain ⟨c0, c1, c2, c3⟩ := B2.out.flat
            go_wp2_with fail
            with_reducible refine (BR.out _).mono ?_
            rintro e w3 ⟨rfl, b3⟩
            have B3 := hid (B2.out.on b3)
            have K3 := hid (TB.out _ B3.out.bel)
            clear b3 B2 c0 c1 c2 c3
            go_wp2_with fail
            with_reducible refine (RN.out _ K3.out).mono ?_
            rintro e w4 ⟨rfl, b4⟩
            have B4 := hid (B3.out.on b4)
            have K4 := hid (TB.out _ B4.out.bel)
            clear b4 B3 K3
            obtain ⟨c0, c1, c2, c3⟩ := B4.out.flat
            go_wp2_with (go_at_call 14; refine (FN.out _).mono ?_; rintro e w' ⟨rfl, hw⟩; rw [hw]; clear hw w')
            with_reducible refine (PL.out _ K4.out).mono ?_
            rintro e w5 ⟨rfl, b5⟩
            have B5 := hid (B4.out.on b5)
            clear b5 B4 c0 c1 c2 c3
            go_wp2_with (go_at_call 24; refine (JN.out _).mono ?_; rintro e w' ⟨rfl, hw⟩; rw [hw]; clear hw w')
            go_ret
            exact ⟨rfl, B5.out.bel⟩
          · have e6 : P = pp := by rw [PR.out, if_neg hP]
            have hne : (pp == -1) = false := by rw [← e6]; simpa using hP
            subst e6
            clear PR hP
            go_enter Tryz.func6, Tryz.ntmps6
            go_wp2_with fail
            with_reducible refine (AW.out _ K0.out).mono ?_
            rintro e w1 ⟨rfl, b1⟩
            have B1 := hid (B0.out.on b1)
            clear b1 B0 K0
            obtain ⟨c0, c1, c2, c3⟩ := B1.out.flat
            go_wp2_with fail
            with_reducible refine (WR.out _).mono ?_
            rintro e w2 ⟨rfl, b2⟩
            have B2 := hid (B1.out.on b2)
            clear b2 B1 c0 c1 c2 c3
            obtain ⟨c0, c1, c2, c3⟩ := B2.out.flat
            go_wp2_with fail
            with_reducible refine (BR.out _).mono ?_
            rintro e w3 ⟨rfl, b3⟩
            have B3 := hid (B2.out.on b3)
            have K3 := hid (TB.out _ B3.out.bel)
            clear b3 B2 c0 c1 c2 c3
            go_wp2_with fail
            with_reducible refine (RN.out _ K3.out).mono ?_
            rintro e w4 ⟨rfl, b4⟩
            have B4 := hid (B3.out.on b4)
            have K4 := hid (TB.out _ B4.out.bel)
            clear b4 B3 K3
            obtain ⟨c0, c1, c2, c3⟩ := B4.out.flat
            go_wp2_with (go_at_call 14; refine (FN.out _).mono ?_; rintro e w' ⟨rfl, hw⟩; rw [hw]; clear hw w')
            with_reducible refine (PL.out _ K4.out).mono ?_
            rintro e w5 ⟨rfl, b5⟩
            have B5 := hid (B4.out.on b5)
            clear b5 B4 c0 c1 c2 c3
            go_wp2_with (go_at_call 24; refine (JN.out _).mono ?_; rintro e w' ⟨rfl, hw⟩; rw [hw]; clear hw w')
            go_ret
            exact ⟨rfl, B5.out.bel⟩
      · have K := Po.fgF hf (n := Po.pr P + 1) (by omega) (by omega)
        have PL := hid (fun wk (k : Tab wk) => fgx_any D (Po.pr P + 1) wk k D0 (by omega))
        rw [K.ok] at PL
        have ln := K.len
        have e1 : Po.bd V (Wh.bit F 8) P D = Po.wrt ((Fx.gS D (Po.pr P + 1)).take 1) ((Fx.gS D (Po.pr P + 1)).drop 1) (Po.ex V (Fx.gK D (Po.pr P + 1))) (Wh.bit F 8) := by rw [Po.bd, if_neg (by omega), if_pos hv, Po.bdE]
        obtain ⟨k0, k1⟩ : -400 ≤ Fx.gK D (Po.pr P + 1) ∧ Fx.gK D (Po.pr P + 1) ≤ 400 := ⟨by have := K.lo; omega, by have := K.hi; omega⟩
        have dl : ((Fx.gS D (Po.pr P + 1)).drop 1).length ≤ 10000 := by rw [List.length_drop]; omega
        have tl : ((Fx.gS D (Po.pr P + 1)).take 1).length ≤ 10000 := by rw [List.length_take]; omega
        obtain ⟨pi, pn⟩ := Po.pl_text (V := V) (k := Fx.gK D (Po.pr P + 1)) (g := []) (a := (Fx.gS D (Po.pr P + 1)).take 1) (b := (Fx.gS D (Po.pr P + 1)).drop 1) (h := Wh.bit F 8) (by simp) (by simp) (Po.digs_take K.s _) (Po.digs_drop K.s _) tl dl k0 k1
        simp only [List.nil_append] at pi pn
        have pd : ((((Fx.gS D (Po.pr P + 1)).drop 1).length : Nat) : Int) = Po.pr P := by rw [List.length_drop]; omega
        rw [← e1] at pi pn
        rw [pd] at pn
        have PS := hid (fun wk => pplaces_any (Po.bd V (Wh.bit F 8) P D) _ (Fx.gK D (Po.pr P + 1)) wk pi)
        simp only [pn] at PS
        have JN := hid (fun wk => pjoined_any ((Fx.gS D (Po.pr P + 1)).take 1) ((Fx.gS D (Po.pr P + 1)).drop 1) (Wh.bit F 8) wk (Po.digs_by (Po.digs_take K.s _)) (Po.digs_by (Po.digs_drop K.s _)) tl dl)
        have HB : Wh.By (Po.hd ((Fx.gS D (Po.pr P + 1)).take 1) ((Fx.gS D (Po.pr P + 1)).drop 1) (Wh.bit F 8)) := by unfold Po.hd; split; exact Po.digs_by (Po.digs_take K.s _); exact (Po.digs_by (Po.digs_take K.s _)).app (Wh.By.cons (by omega) (Po.digs_by (Po.digs_drop K.s _)))
        have HLn : (Po.hd ((Fx.gS D (Po.pr P + 1)).take 1) ((Fx.gS D (Po.pr P + 1)).drop 1) (Wh.bit F 8)).length ≤ 20001 := by
          unfold Po.hd
          split
          · omega
          · rw [List.length_append, List.length_cons]; omega
        have lV : (if Po.cap V = true then (69 : Int) else 101) = V := by rcases hv with rfl | rfl <;> decide
        have e2 : Po.bd V (Wh.bit F 8) P D = Po.hd ((Fx.gS D (Po.pr P + 1)).take 1) ((Fx.gS D (Po.pr P + 1)).drop 1) (Wh.bit F 8) ++ V :: Po.xd (Fx.gK D (Po.pr P + 1)) := by rw [e1, Po.wrt_hd, Po.ex, lV]
        obtain ⟨x3, xh⟩ : 3 ≤ (Po.xd (Fx.gK D (Po.pr P + 1))).length ∧ (Po.xd (Fx.gK D (Po.pr P + 1))).getD 0 0 = if Fx.gK D (Po.pr P + 1) < 0 then 45 else 43 := by
          rw [Po.xd_is k0 k1]
          refine ⟨?_, rfl⟩
          rw [List.length_cons, Fx.tx_len]; split <;> omega
        have x4 := Po.xd_len k0 k1
        have BB : Wh.By (Po.bd V (Wh.bit F 8) P D) := by rw [e2]; exact HB.app (Wh.By.cons ⟨v0, v1⟩ (Po.xd_by _))
        obtain ⟨H, hH⟩ : ∃ H, (Po.hd ((Fx.gS D (Po.pr P + 1)).take 1) ((Fx.gS D (Po.pr P + 1)).drop 1) (Wh.bit F 8)).length = H := ⟨_, rfl⟩
        obtain ⟨T, hTl⟩ : ∃ T, (Po.bd V (Wh.bit F 8) P D).length = T := ⟨_, rfl⟩
        have tT : T = H + 1 + (Po.xd (Fx.gK D (Po.pr P + 1))).length := by rw [← hTl, e2, List.length_append, List.length_cons, hH]; omega
        have tsz : (strOfNums (Po.bd V (Wh.bit F 8) P D)).size = T := by rw [strOfNums_size, hTl]
        have hsz : (strOfNums (Po.hd ((Fx.gS D (Po.pr P + 1)).take 1) ((Fx.gS D (Po.pr P + 1)).drop 1) (Wh.bit F 8)) ++ strOfNums [V]).size = H + 1 := by rw [ByteArray.size_append, strOfNums_size, strOfNums_size, hH]; rfl
        have X1 : (strOfNums (Po.bd V (Wh.bit F 8) P D)).extract 0 (H + 1) = strOfNums (Po.hd ((Fx.gS D (Po.pr P + 1)).take 1) ((Fx.gS D (Po.pr P + 1)).drop 1) (Wh.bit F 8)) ++ strOfNums [V] := by
          rw [ext_head BB, str_is ((Str.of_nums HB).app (Str.of_nums (xs := [V]) (by intro x hx; simp at hx; omega))), e2]
          congr 1
          rw [← hH, List.take_append, List.take_of_length_le (by omega), Nat.add_sub_cancel_left]
          rfl
        have X2 : ∀ h : H + 1 < (strOfNums (Po.bd V (Wh.bit F 8) P D)).size, (((strOfNums (Po.bd V (Wh.bit F 8) P D))[H + 1]'h).toNat : Int) = if Fx.gK D (Po.pr P + 1) < 0 then 45 else 43 := by
          intro h
          rw [(Str.of_nums BB).at (H + 1) h, ← xh]
          have q : (Po.bd V (Wh.bit F 8) P D).getD (H + 1) 0 = (Po.xd (Fx.gK D (Po.pr P + 1))).getD 0 0 := by
            rw [e2, ← hH]
            simp [List.getD, List.getElem?_append_right]
          first | exact q | simpa [List.getD] using q
        have ds : (strOfNums (Fx.gS D (Po.pr P + 1))).size = (Po.pr P + 1).toNat := by rw [strOfNums_size]; omega
        have DX1 := ext_head (Po.digs_by K.s) 1
        have DX2 := ext_tail (Po.digs_by K.s) 1
        have dln : (Fx.gS D (Po.pr P + 1)).length = (Po.pr P + 1).toNat := by omega
        rw [dln] at DX2
        have CVA : ∀ W' : World, (convert 47 9 (.slice (some ⟨W'.heap.size, 0, none⟩) 1 1)).run Tryz.prog (W'.alloc (.cells #[.int .u8 V] 5)) = .ok (.string (strOfNums [V])) (W'.alloc (.cells #[.int .u8 V] 5)) := fun W' => ownb_str (OwnB.alloc W' [V]) rfl
        have CVB : ∀ W' : World, (convert 47 9 (.slice (some ⟨W'.heap.size, 0, none⟩) 1 1)).run Tryz.prog (W'.alloc (.cells #[.int .u8 V] 5)).drew = .ok (.string (strOfNums [V])) (W'.alloc (.cells #[.int .u8 V] 5)).drew := fun W' => ownb_str (W := (W'.alloc (.cells #[.int .u8 V] 5)).drew) (OwnB.alloc W' [V]) rfl
        have PR : Hid (Po.pr P = if P = -1 then 6 else P) := rfl
        obtain ⟨m, hm⟩ : ∃ m : Nat, Po.pr P + 1 = (m : Int) := ⟨(Po.pr P + 1).toNat, by omega⟩
        have m1 : (1 : Int) ≤ (m : Int) := by omega
        have m2 : (m : Int) ≤ 4097 := by omega
        rw [show (Po.pr P + 1).toNat = m by omega] at ds DX2
        have hsn : ((strOfNums (Po.hd ((Fx.gS D (Po.pr P + 1)).take 1) ((Fx.gS D (Po.pr P + 1)).drop 1) (Wh.bit F 8))).size : Int) ≤ 20001 := by rw [strOfNums_size]; omega
        have vsn : ((strOfNums [V]).size : Int) ≤ 1 := by rw [strOfNums_size]; simp
        have hTi : (H : Int) + 1 + 3 ≤ (T : Int) := by omega
        have hTj : (H : Int) + 1 < (T : Int) := by omega
        have hTk : (T : Int) ≤ 30000 := by omega
        clear hT v0 hE hc f0 f1 r1 r2 e1 e2 K hf pi pn pd HB HLn lV x3 xh x4 BB hH hTl tT dl tl ln dln k0 k1
        generalize strOfNums [V] = vs at *
        generalize strOfNums (Po.hd ((Fx.gS D (Po.pr P + 1)).take 1) ((Fx.gS D (Po.pr P + 1)).drop 1) (Wh.bit F 8)) = hs at *
        generalize strOfNums (Po.bd V (Wh.bit F 8) P D) = ts at *
        generalize (Fx.gS D (Po.pr P + 1)).take 1 = S1 at *
        generalize (Fx.gS D (Po.pr P + 1)).drop 1 = S2 at *
        generalize strOfNums (Fx.gS D (Po.pr P + 1)) = gs at *
        generalize Fx.gK D (Po.pr P + 1) = kk at *
        generalize Wh.bit F 8 = hh at *
        generalize Po.pr P = pp at *
        simp only [hm] at PL
        rcases hv with rfl | rfl
        · by_cases hP : P = -1
          · have e6 : pp = 6 := by rw [PR.out, if_pos hP]
            subst e6
            subst hP
            clear PR
            go_enter Tryz.func6, Tryz.ntmps6
            go_wp2_with fail
            with_reducible refine (AW.out _ K0.out).mono ?_
            rintro e w1 ⟨rfl, b1⟩
            have B1 := hid (B0.out.on b1)
            clear b1 B0 K0
            obtain ⟨c0, c1, c2, c3⟩ := B1.out.flat
            go_wp2_with fail
            with_reducible refine (WR.out _).mono ?_
            rintro e w2 ⟨rfl, b2⟩
            have B2 := hid (B1.out.on b2)
            clear b2 B1 c0 c1 c2 c3
            obtain ⟨c0, c1, c2, c3⟩ := B2.out.flat
            go_wp2_with fail
            with_reducible refine (BR.out _).mono ?_
            rintro e w3 ⟨rfl, b3⟩
            have B3 := hid (B2.out.on b3)
            have K3 := hid (TB.out _ B3.out.bel)
            clear b3 B2 c0 c1 c2 c3
            go_wp2_with fail
            with_reducible refine (RN.out _ K3.out).mono ?_
            rintro e w4 ⟨rfl, b4⟩
            have B4 := hid (B3.out.on b4)
            have K4 := hid (TB.out _ B4.out.bel)
            clear b4 B3 K3
            obtain ⟨c0, c1, c2, c3⟩ := B4.out.flat
            go_wp2_with (go_at_call 14; refine (FN.out _).mono ?_; rintro e w' ⟨rfl, hw⟩; rw [hw]; clear hw w')
            with_reducible refine (PL.out _ K4.out).mono ?_
            rintro e w5 ⟨rfl, b5⟩
            have B5 := hid (B4.out.on b5)
            clear b5 B4 c0 c1 c2 c3
            go_upto_region 21 with fail
            go_cut [17] (fun v wx => v = .string (hs ++ vs) ∧ Hid (Below w.heap.size w wx))
            case first =>
              have T1 := hid B5.out.drew
              obtain ⟨c0, c1, c2, c3⟩ := T1.out.flat
              go_region_with (go_at_call 24; with_reducible refine (JN.out _).mono ?_; rintro e wj ⟨rfl, hw⟩; rw [hw]; clear hw wj)
              all_goals (go_wp2_with fail)
              all_goals go_meet
              all_goals first | exact ⟨rfl, (T1.out.on (alloc_b _ _)).bel⟩ | exact ⟨rfl, ((B5.out.on (alloc_b _ _)).drew).bel⟩
            case rest =>
            obtain ⟨h17, B6⟩ := hcut
            subst h17
            go_wp2_with fail
            with_reducible refine (PS.out _).mono ?_
            rintro e w7 ⟨rfl, b7⟩
            have B7 := hid (below_on B6.out b7)
            clear b7 B5 B6
            by_cases hk : kk < 0
            · rw [if_pos hk] at X2
              have hk2 : ¬ 0 ≤ kk := by omega
              have hk3 : decide (0 ≤ kk) = false := decide_eq_false hk2
              go_wp2_with fail
              go_ret
              exact ⟨rfl, B7.out⟩
            · rw [if_neg hk] at X2
              have hk2 : 0 ≤ kk := by omega
              have hk3 : decide (0 ≤ kk) = true := decide_eq_true hk2
              go_wp2_with fail
              go_ret
              exact ⟨rfl, B7.out⟩
          · have e6 : P = pp := by rw [PR.out, if_neg hP]
            have hne : (pp == -1) = false := by rw [← e6]; simpa using hP
            subst e6
            clear PR hP
            go_enter Tryz.func6, Tryz.ntmps6
            go_wp2_with fail
            with_reducible refine (AW.out _ K0.out).mono ?_
            rintro e w1 ⟨rfl, b1⟩
            have B1 := hid (B0.out.on b1)
            clear b1 B0 K0
            obtain ⟨c0, c1, c2, c3⟩ := B1.out.flat
            go_wp2_with fail
            with_reducible refine (WR.out _).mono ?_
            rintro e w2 ⟨rfl, b2⟩
            have B2 := hid (B1.out.on b2)
            clear b2 B1 c0 c1 c2 c3
            obtain ⟨c0, c1, c2, c3⟩ := B2.out.flat
            go_wp2_with fail
            with_reducible refine (BR.out _).mono ?_
            rintro e w3 ⟨rfl, b3⟩
            have B3 := hid (B2.out.on b3)
            have K3 := hid (TB.out _ B3.out.bel)
            clear b3 B2 c0 c1 c2 c3
            go_wp2_with fail
            with_reducible refine (RN.out _ K3.out).mono ?_
            rintro e w4 ⟨rfl, b4⟩
            have B4 := hid (B3.out.on b4)
            have K4 := hid (TB.out _ B4.out.bel)
            clear b4 B3 K3
            obtain ⟨c0, c1, c2, c3⟩ := B4.out.flat
            go_wp2_with (go_at_call 14; refine (FN.out _).mono ?_; rintro e w' ⟨rfl, hw⟩; rw [hw]; clear hw w')
            with_reducible refine (PL.out _ K4.out).mono ?_
            rintro e w5 ⟨rfl, b5⟩
            have B5 := hid (B4.out.on b5)
            clear b5 B4 c0 c1 c2 c3
            go_upto_region 21 with fail
            go_cut [17] (fun v wx => v = .string (hs ++ vs) ∧ Hid (Below w.heap.size w wx))
            case first =>
              have T1 := hid B5.out.drew
              obtain ⟨c0, c1, c2, c3⟩ := T1.out.flat
              go_region_with (go_at_call 24; with_reducible refine (JN.out _).mono ?_; rintro e wj ⟨rfl, hw⟩; rw [hw]; clear hw wj)
              all_goals (go_wp2_with fail)
              all_goals go_meet
              all_goals first | exact ⟨rfl, (T1.out.on (alloc_b _ _)).bel⟩ | exact ⟨rfl, ((B5.out.on (alloc_b _ _)).drew).bel⟩
            case rest =>
            obtain ⟨h17, B6⟩ := hcut
            subst h17
            go_wp2_with fail
            with_reducible refine (PS.out _).mono ?_
            rintro e w7 ⟨rfl, b7⟩
            have B7 := hid (below_on B6.out b7)
            clear b7 B5 B6
            by_cases hk : kk < 0
            · rw [if_pos hk] at X2
              have hk2 : ¬ 0 ≤ kk := by omega
              have hk3 : decide (0 ≤ kk) = false := decide_eq_false hk2
              go_wp2_with fail
              go_ret
              exact ⟨rfl, B7.out⟩
            · rw [if_neg hk] at X2
              have hk2 : 0 ≤ kk := by omega
              have hk3 : decide (0 ≤ kk) = true := decide_eq_true hk2
              go_wp2_with fail
              go_ret
              exact ⟨rfl, B7.out⟩
        · by_cases hP : P = -1
          · have e6 : pp = 6 := by rw [PR.out, if_pos hP]
            subst e6
            subst hP
            clear PR
            go_enter Tryz.func6, Tryz.ntmps6
            go_wp2_with fail
            with_reducible refine (AW.out _ K0.out).mono ?_
            rintro e w1 ⟨rfl, b1⟩
            have B1 := hid (B0.out.on b1)
            clear b1 B0 K0
            obtain ⟨c0, c1, c2, c3⟩ := B1.out.flat
            go_wp2_with fail
            with_reducible refine (WR.out _).mono ?_
            rintro e w2 ⟨rfl, b2⟩
            have B2 := hid (B1.out.on b2)
            clear b2 B1 c0 c1 c2 c3
            obtain ⟨c0, c1, c2, c3⟩ := B2.out.flat
            go_wp2_with fail
            with_reducible refine (BR.out _).mono ?_
            rintro e w3 ⟨rfl, b3⟩
            have B3 := hid (B2.out.on b3)
            have K3 := hid (TB.out _ B3.out.bel)
            clear b3 B2 c0 c1 c2 c3
            go_wp2_with fail
            with_reducible refine (RN.out _ K3.out).mono ?_
            rintro e w4 ⟨rfl, b4⟩
            have B4 := hid (B3.out.on b4)
            have K4 := hid (TB.out _ B4.out.bel)
            clear b4 B3 K3
            obtain ⟨c0, c1, c2, c3⟩ := B4.out.flat
            go_wp2_with (go_at_call 14; refine (FN.out _).mono ?_; rintro e w' ⟨rfl, hw⟩; rw [hw]; clear hw w')
            with_reducible refine (PL.out _ K4.out).mono ?_
            rintro e w5 ⟨rfl, b5⟩
            have B5 := hid (B4.out.on b5)
            clear b5 B4 c0 c1 c2 c3
            go_upto_region 21 with fail
            go_cut [17] (fun v wx => v = .string (hs ++ vs) ∧ Hid (Below w.heap.size w wx))
            case first =>
              have T1 := hid B5.out.drew
              obtain ⟨c0, c1, c2, c3⟩ := T1.out.flat
              go_region_with (go_at_call 24; with_reducible refine (JN.out _).mono ?_; rintro e wj ⟨rfl, hw⟩; rw [hw]; clear hw wj)
              all_goals (go_wp2_with fail)
              all_goals go_meet
              all_goals first | exact ⟨rfl, (T1.out.on (alloc_b _ _)).bel⟩ | exact ⟨rfl, ((B5.out.on (alloc_b _ _)).drew).bel⟩
            case rest =>
            obtain ⟨h17, B6⟩ := hcut
            subst h17
            go_wp2_with fail
            with_reducible refine (PS.out _).mono ?_
            rintro e w7 ⟨rfl, b7⟩
            have B7 := hid (below_on B6.out b7)
            clear b7 B5 B6
            by_cases hk : kk < 0
            · rw [if_pos hk] at X2
              have hk2 : ¬ 0 ≤ kk := by omega
              have hk3 : decide (0 ≤ kk) = false := decide_eq_false hk2
              go_wp2_with fail
              go_ret
              exact ⟨rfl, B7.out⟩
            · rw [if_neg hk] at X2
              have hk2 : 0 ≤ kk := by omega
              have hk3 : decide (0 ≤ kk) = true := decide_eq_true hk2
              go_wp2_with fail
              go_ret
              exact ⟨rfl, B7.out⟩
          · have e6 : P = pp := by rw [PR.out, if_neg hP]
            have hne : (pp == -1) = false := by rw [← e6]; simpa using hP
            subst e6
            clear PR hP
            go_enter Tryz.func6, Tryz.ntmps6
            go_wp2_with fail
            with_reducible refine (AW.out _ K0.out).mono ?_
            rintro e w1 ⟨rfl, b1⟩
            have B1 := hid (B0.out.on b1)
            clear b1 B0 K0
            obtain ⟨c0, c1, c2, c3⟩ := B1.out.flat
            go_wp2_with fail
            with_reducible refine (WR.out _).mono ?_
            rintro e w2 ⟨rfl, b2⟩
            have B2 := hid (B1.out.on b2)
            clear b2 B1 c0 c1 c2 c3
            obtain ⟨c0, c1, c2, c3⟩ := B2.out.flat
            go_wp2_with fail
            with_reducible refine (BR.out _).mono ?_
            rintro e w3 ⟨rfl, b3⟩
            have B3 := hid (B2.out.on b3)
            have K3 := hid (TB.out _ B3.out.bel)
            clear b3 B2 c0 c1 c2 c3
            go_wp2_with fail
            with_reducible refine (RN.out _ K3.out).mono ?_
            rintro e w4 ⟨rfl, b4⟩
            have B4 := hid (B3.out.on b4)
            have K4 := hid (TB.out _ B4.out.bel)
            clear b4 B3 K3
            obtain ⟨c0, c1, c2, c3⟩ := B4.out.flat
            go_wp2_with (go_at_call 14; refine (FN.out _).mono ?_; rintro e w' ⟨rfl, hw⟩; rw [hw]; clear hw w')
            with_reducible refine (PL.out _ K4.out).mono ?_
            rintro e w5 ⟨rfl, b5⟩
            have B5 := hid (B4.out.on b5)
            clear b5 B4 c0 c1 c2 c3
            go_upto_region 21 with fail
            go_cut [17] (fun v wx => v = .string (hs ++ vs) ∧ Hid (Below w.heap.size w wx))
            case first =>
              have T1 := hid B5.out.drew
              obtain ⟨c0, c1, c2, c3⟩ := T1.out.flat
              go_region_with (go_at_call 24; with_reducible refine (JN.out _).mono ?_; rintro e wj ⟨rfl, hw⟩; rw [hw]; clear hw wj)
              all_goals (go_wp2_with fail)
              all_goals go_meet
              all_goals first | exact ⟨rfl, (T1.out.on (alloc_b _ _)).bel⟩ | exact ⟨rfl, ((B5.out.on (alloc_b _ _)).drew).bel⟩
            case rest =>
            obtain ⟨h17, B6⟩ := hcut
            subst h17
            go_wp2_with fail
            with_reducible refine (PS.out _).mono ?_
            rintro e w7 ⟨rfl, b7⟩
            have B7 := hid (below_on B6.out b7)
            clear b7 B5 B6
            by_cases hk : kk < 0
            · rw [if_pos hk] at X2
              have hk2 : ¬ 0 ≤ kk := by omega
              have hk3 : decide (0 ≤ kk) = false := decide_eq_false hk2
              go_wp2_with fail
              go_ret
              exact ⟨rfl, B7.out⟩
            · rw [if_neg hk] at X2
              have hk2 : 0 ≤ kk := by omega
              have hk3 : decide (0 ≤ kk) = true := decide_eq_true hk2
              go_wp2_with fail
              go_ret
              exact ⟨rfl, B7.out⟩
      · have PR : Hid (Po.pr P = if P = -1 then 6 else P) := rfl
        clear hT v0 v1 hE hc hV f0 f1 r1 r2 hf
        generalize Po.bd V (Wh.bit F 8) P D = R at *
        generalize Wh.bit F 8 = hh at *
        generalize Po.pr P = pp at *
        rcases hv with rfl | rfl
        · by_cases hP : P = -1
          · have e6 : pp = 6 := by rw [PR.out, if_pos hP]
            subst e6
            subst hP
            clear PR
            go_enter Tryz.func6, Tryz.ntmps6
            go_wp2_with fail
            with_reducible refine (AW.out _ K0.out).mono ?_
            rintro e w1 ⟨rfl, b1⟩
            have B1 := hid (B0.out.on b1)
            clear b1 B0 K0
            obtain ⟨c0, c1, c2, c3⟩ := B1.out.flat
            go_wp2_with fail
            with_reducible refine (WR.out _).mono ?_
            rintro e w2 ⟨rfl, b2⟩
            have B2 := hid (B1.out.on b2)
            clear b2 B1 c0 c1 c2 c3
            obtain ⟨c0, c1, c2, c3⟩ := B2.out.flat
            go_wp2_with fail
            with_reducible refine (BR.out _).mono ?_
            rintro e w3 ⟨rfl, b3⟩
            have B3 := hid (B2.out.on b3)
            have K3 := hid (TB.out _ B3.out.bel)
            clear b3 B2 c0 c1 c2 c3
            go_wp2_with fail
            with_reducible refine (RN.out _ K3.out).mono ?_
            rintro e w4 ⟨rfl, b4⟩
            have B4 := hid (B3.out.on b4)
            have K4 := hid (TB.out _ B4.out.bel)
            clear b4 B3 K3
            obtain ⟨c0, c1, c2, c3⟩ := B4.out.flat
            go_wp2_with (go_at_call 14; refine (FN.out _).mono ?_; rintro e w' ⟨rfl, hw⟩; rw [hw]; clear hw w')
            go_ret
            exact ⟨rfl, B4.out.bel⟩
          · have e6 : P = pp := by rw [PR.out, if_neg hP]
            have hne : (pp == -1) = false := by rw [← e6]; simpa using hP
            subst e6
            clear PR hP
            go_enter Tryz.func6, Tryz.ntmps6
            go_wp2_with fail
            with_reducible refine (AW.out _ K0.out).mono ?_
            rintro e w1 ⟨rfl, b1⟩
            have B1 := hid (B0.out.on b1)
            clear b1 B0 K0
            obtain ⟨c0, c1, c2, c3⟩ := B1.out.flat
            go_wp2_with fail
            with_reducible refine (WR.out _).mono ?_
            rintro e w2 ⟨rfl, b2⟩
            have B2 := hid (B1.out.on b2)
            clear b2 B1 c0 c1 c2 c3
            obtain ⟨c0, c1, c2, c3⟩ := B2.out.flat
            go_wp2_with fail
            with_reducible refine (BR.out _).mono ?_
            rintro e w3 ⟨rfl, b3⟩
            have B3 := hid (B2.out.on b3)
            have K3 := hid (TB.out _ B3.out.bel)
            clear b3 B2 c0 c1 c2 c3
            go_wp2_with fail
            with_reducible refine (RN.out _ K3.out).mono ?_
            rintro e w4 ⟨rfl, b4⟩
            have B4 := hid (B3.out.on b4)
            have K4 := hid (TB.out _ B4.out.bel)
            clear b4 B3 K3
            obtain ⟨c0, c1, c2, c3⟩ := B4.out.flat
            go_wp2_with (go_at_call 14; refine (FN.out _).mono ?_; rintro e w' ⟨rfl, hw⟩; rw [hw]; clear hw w')
            go_ret
            exact ⟨rfl, B4.out.bel⟩
        · by_cases hP : P = -1
          · have e6 : pp = 6 := by rw [PR.out, if_pos hP]
            subst e6
            subst hP
            clear PR
            go_enter Tryz.func6, Tryz.ntmps6
            go_wp2_with fail
            with_reducible refine (AW.out _ K0.out).mono ?_
            rintro e w1 ⟨rfl, b1⟩
            have B1 := hid (B0.out.on b1)
            clear b1 B0 K0
            obtain ⟨c0, c1, c2, c3⟩ := B1.out.flat
            go_wp2_with fail
            with_reducible refine (WR.out _).mono ?_
            rintro e w2 ⟨rfl, b2⟩
            have B2 := hid (B1.out.on b2)
            clear b2 B1 c0 c1 c2 c3
            obtain ⟨c0, c1, c2, c3⟩ := B2.out.flat
            go_wp2_with fail
            with_reducible refine (BR.out _).mono ?_
            rintro e w3 ⟨rfl, b3⟩
            have B3 := hid (B2.out.on b3)
            have K3 := hid (TB.out _ B3.out.bel)
            clear b3 B2 c0 c1 c2 c3
            go_wp2_with fail
            with_reducible refine (RN.out _ K3.out).mono ?_
            rintro e w4 ⟨rfl, b4⟩
            have B4 := hid (B3.out.on b4)
            have K4 := hid (TB.out _ B4.out.bel)
            clear b4 B3 K3
            obtain ⟨c0, c1, c2, c3⟩ := B4.out.flat
            go_wp2_with (go_at_call 14; refine (FN.out _).mono ?_; rintro e w' ⟨rfl, hw⟩; rw [hw]; clear hw w')
            go_ret
            exact ⟨rfl, B4.out.bel⟩
          · have e6 : P = pp := by rw [PR.out, if_neg hP]
            have hne : (pp == -1) = false := by rw [← e6]; simpa using hP
            subst e6
            clear PR hP
            go_enter Tryz.func6, Tryz.ntmps6
            go_wp2_with fail
            with_reducible refine (AW.out _ K0.out).mono ?_
            rintro e w1 ⟨rfl, b1⟩
            have B1 := hid (B0.out.on b1)
            clear b1 B0 K0
            obtain ⟨c0, c1, c2, c3⟩ := B1.out.flat
            go_wp2_with fail
            with_reducible refine (WR.out _).mono ?_
            rintro e w2 ⟨rfl, b2⟩
            have B2 := hid (B1.out.on b2)
            clear b2 B1 c0 c1 c2 c3
            obtain ⟨c0, c1, c2, c3⟩ := B2.out.flat
            go_wp2_with fail
            with_reducible refine (BR.out _).mono ?_
            rintro e w3 ⟨rfl, b3⟩
            have B3 := hid (B2.out.on b3)
            have K3 := hid (TB.out _ B3.out.bel)
            clear b3 B2 c0 c1 c2 c3
            go_wp2_with fail
            with_reducible refine (RN.out _ K3.out).mono ?_
            rintro e w4 ⟨rfl, b4⟩
            have B4 := hid (B3.out.on b4)
            have K4 := hid (TB.out _ B4.out.bel)
            clear b4 B3 K3
            obtain ⟨c0, c1, c2, c3⟩ := B4.out.flat
            go_wp2_with (go_at_call 14; refine (FN.out _).mono ?_; rintro e w' ⟨rfl, hw⟩; rw [hw]; clear hw w')
            go_ret
            exact ⟨rfl, B4.out.bel⟩
    · have hf' : Ie.fnt D = false := by simpa using hf
      rw [hf'] at FN
      clear hT v0 v1 hE hc hV f0 f1 hf hf' p0 p1
      generalize Po.ren V (bits .and .i64 F 8) 0 P D = R at *
      generalize Po.renE V (bits .and .i64 F 8) 0 P = E2 at *
      go_enter Tryz.func6, Tryz.ntmps6
      go_wp2_with fail
      with_reducible refine (AW.out _ K0.out).mono ?_
      rintro e w1 ⟨rfl, b1⟩
      have B1 := hid (B0.out.on b1)
      clear b1 B0 K0
      obtain ⟨c0, c1, c2, c3⟩ := B1.out.flat
      go_wp2_with fail
      with_reducible refine (WR.out _).mono ?_
      rintro e w2 ⟨rfl, b2⟩
      have B2 := hid (B1.out.on b2)
      clear b2 B1 c0 c1 c2 c3
      obtain ⟨c0, c1, c2, c3⟩ := B2.out.flat
      go_wp2_with fail
      with_reducible refine (BR.out _).mono ?_
      rintro e w3 ⟨rfl, b3⟩
      have B3 := hid (B2.out.on b3)
      have K3 := hid (TB.out _ B3.out.bel)
      clear b3 B2 c0 c1 c2 c3
      go_wp2_with fail
      with_reducible refine (RN.out _ K3.out).mono ?_
      rintro e w4 ⟨rfl, b4⟩
      have B4 := hid (B3.out.on b4)
      have K4 := hid (TB.out _ B4.out.bel)
      clear b4 B3 K3
      obtain ⟨c0, c1, c2, c3⟩ := B4.out.flat
      go_wp2_with (go_at_call 14; refine (FN.out _).mono ?_; rintro e w' ⟨rfl, hw⟩; rw [hw]; clear hw w')
      go_ret
      exact ⟨rfl, B4.out.bel⟩
  · have h140 : Po.renE V F W P = 140 → Po.renE V (bits .and .i64 F 8) 0 P = 140 := by
      unfold Po.renE
      by_cases hV : Po.okV V = true
      · rw [if_pos hV]
        intro c
        rcases Wh.chk_three F W P with q | q | q <;> omega
      · rw [if_neg hV, if_neg hV]; exact fun _ => rfl
    have hne : (Po.renE V F W P == 0) = false := by simpa using hE
    have hne2 : (Po.renE V F W P != 0) = true := by simpa using hE
    replace h140 := hid h140
    clear hT v0 v1 hE
    generalize Po.ren V (bits .and .i64 F 8) 0 P D = R at *
    generalize Po.renE V (bits .and .i64 F 8) 0 P = E2 at *
    generalize Po.renE V F W P = E at *
    by_cases h : E = 140
    · have h2 := h140.out h
      subst h
      subst h2
      clear h140
      go_enter Tryz.func6, Tryz.ntmps6
      go_wp2_with fail
      with_reducible refine (AW.out _ K0.out).mono ?_
      rintro e w1 ⟨rfl, b1⟩
      have B1 := hid (B0.out.on b1)
      clear b1 B0 K0
      obtain ⟨c0, c1, c2, c3⟩ := B1.out.flat
      go_wp2_with fail
      with_reducible refine (WR.out _).mono ?_
      rintro e w2 ⟨rfl, b2⟩
      have B2 := hid (B1.out.on b2)
      clear b2 B1 c0 c1 c2 c3
      obtain ⟨c0, c1, c2, c3⟩ := B2.out.flat
      go_wp2_with fail
      with_reducible refine (BR.out _).mono ?_
      rintro e w3 ⟨rfl, b3⟩
      have B3 := hid (B2.out.on b3)
      have K3 := hid (TB.out _ B3.out.bel)
      clear b3 B2 c0 c1 c2 c3
      go_wp2_with fail
      with_reducible refine (RN.out _ K3.out).mono ?_
      rintro e w4 ⟨rfl, b4⟩
      have B4 := hid (B3.out.on b4)
      have K4 := hid (TB.out _ B4.out.bel)
      clear b4 B3 K3
      obtain ⟨c0, c1, c2, c3⟩ := B4.out.flat
      go_wp2_with fail
      go_ret
      exact ⟨rfl, B4.out.bel⟩
    · have h3 : (E == 140) = false := by simpa using h
      have h4 : (E != 140) = true := by simpa using h
      clear h140 h
      go_enter Tryz.func6, Tryz.ntmps6
      go_wp2_with fail
      with_reducible refine (AW.out _ K0.out).mono ?_
      rintro e w1 ⟨rfl, b1⟩
      have B1 := hid (B0.out.on b1)
      clear b1 B0 K0
      obtain ⟨c0, c1, c2, c3⟩ := B1.out.flat
      go_wp2_with fail
      with_reducible refine (WR.out _).mono ?_
      rintro e w2 ⟨rfl, b2⟩
      have B2 := hid (B1.out.on b2)
      clear b2 B1 c0 c1 c2 c3
      obtain ⟨c0, c1, c2, c3⟩ := B2.out.flat
      go_wp2_with fail
      with_reducible refine (BR.out _).mono ?_
      rintro e w3 ⟨rfl, b3⟩
      have B3 := hid (B2.out.on b3)
      have K3 := hid (TB.out _ B3.out.bel)
      clear b3 B2 c0 c1 c2 c3
      go_wp2_with fail
      with_reducible refine (RN.out _ K3.out).mono ?_
      rintro e w4 ⟨rfl, b4⟩
      have B4 := hid (B3.out.on b4)
      have K4 := hid (TB.out _ B4.out.bel)
      clear b4 B3 K3
      obtain ⟨c0, c1, c2, c3⟩ := B4.out.flat
      go_wp2_with fail
      go_ret
      exact ⟨rfl, B4.out.bel⟩
end Go.Proofs.YtaoaniigbooihaaGreatDoor

namespace Go.Proofs.YtaoaniigbooihaaGreatDoor
open Go Go.RowKit Go.Deep

theorem tab_laid : (Rows.laid_math_bits_deBruijn64tab : DataW Unit) = Lib.tabData .u8 (List.map Int.ofNat Lib.deBruijn64tab) := by kernel_rfl

theorem tab_of {W : World} {rest : List (String × DataW Unit)} (h : laidMet Tryz.prog (("math/bits.deBruijn64tab", Rows.laid_math_bits_deBruijn64tab) :: rest) W) : Tab W := by
  rw [tab_laid] at h
  have ht := Lib.tabIs_of_head (g := 0) (t := 139) (e := 5) (n := 64) (k := .u8) (zs := List.map Int.ofNat Lib.deBruijn64tab) (by kernel_rfl) (by kernel_rfl) Tryz.underlying139 Tryz.underlying5 (by kernel_rfl) (by kernel_rfl) h
  intro j hj
  have hl : (List.map Int.ofNat Lib.deBruijn64tab).length = Lib.deBruijn64tab.length := by simp
  rw [ht.cell (g := 0) (by kernel_rfl) j (by omega)]
  simp [List.getD, hj]

end Go.Proofs.YtaoaniigbooihaaGreatDoor

namespace Go.Proofs.YtaoaniigbooihaaGreatDoor
open Go Go.RowKit Go.Deep Go.Shelf

theorem case_laid : Rows.laid_unicode_CaseRanges = Lib.caseData := by kernel_rfl

theorem laidVars_swap {P : Program} {w : World} {x y : String × DataW Unit} : ∀ {l : List (String × DataW Unit)} {ps : List MemPlace}, DataW.LaidVars P w (l ++ [y, x]) ps → ∃ qs, DataW.LaidVars P w (l ++ [x, y]) qs ∧ qs.Perm ps
  | [], ps, h => by
    obtain ⟨x1, x2⟩ := x
    obtain ⟨y1, y2⟩ := y
    obtain ⟨g, t, cs, fuel, p, q, h1, h2, h3, h4, ⟨g', t', cs', fuel', p', q', k1, k2, k3, k4, k5, rfl⟩, rfl⟩ := h
    have k5 : q' = [] := k5
    subst k5
    refine ⟨_, ⟨g', t', cs', fuel', p', _, k1, k2, k3, k4, ⟨g, t, cs, fuel, p, [], h1, h2, h3, h4, rfl, rfl⟩, rfl⟩, ?_⟩
    simp only [List.append_nil]
    exact List.perm_append_comm
  | (n, d) :: l, ps, h => by
    obtain ⟨g, t, cs, fuel, p, q, h1, h2, h3, h4, h5, rfl⟩ := h
    obtain ⟨qs, k1, k2⟩ := laidVars_swap h5
    exact ⟨_, ⟨g, t, cs, fuel, p, qs, h1, h2, h3, h4, k1, rfl⟩, List.Perm.append_left _ k2⟩
theorem laidMet_swap {P : Program} {w : World} {x y : String × DataW Unit} {l : List (String × DataW Unit)} (h : laidMet P (l ++ [y, x]) w) : laidMet P (l ++ [x, y]) w := by
  obtain ⟨ps, h1, h2, h3⟩ := h
  obtain ⟨qs, k1, k2⟩ := laidVars_swap h1
  exact ⟨qs, k1, (k2.nodup_iff).2 h2, fun b off hp => h3 b off (k2.mem_iff.1 hp)⟩
end Go.Proofs.YtaoaniigbooihaaGreatDoor

namespace Go.Proofs.YtaoaniigbooihaaGreatDoor
open Go.RowKit Go.Deep Go.ChangeShapes Go.WideShapes Go.ChangeAt

theorem spc_array {α : Type} {cs : Array α} (h : cs.size = 4) : ∃ c0 c1 c2 c3, cs = #[c0, c1, c2, c3] := by
  obtain ⟨l⟩ := cs
  match l, h with
  | [c0, c1, c2, c3], _ => exact ⟨c0, c1, c2, c3, rfl⟩
theorem spc_list {α : Type} {l : List α} (h : l.length = 4) : ∃ c0 c1 c2 c3, l = [c0, c1, c2, c3] := by
  match l, h with
  | [c0, c1, c2, c3], _ => exact ⟨c0, c1, c2, c3, rfl⟩

set_option maxRecDepth 100000 in
theorem open_spc_cells {H : Type} {enc : TypeId × Value → H} {W : World} {fuel : Nat} {a0 a1 a2 a3 : Value} {x : DataW H × List MemPlace} (hf : DataW.trod enc Tryz.prog W 0 (fun _ => true) true fuel 25 [a0, a1, a2, a3] = some x) :
    ∃ V F D P : Int, a0 = .int .u8 V ∧ a1 = .int .i64 F ∧ a2 = .int .i64 D ∧ a3 = .int .i64 P ∧ (0 ≤ V ∧ V < 256) := by
  obtain ⟨xs, n, _, hx, _, hlen, hfs⟩ := DataW.trod_struct Tryz.underlying25 hf
  obtain ⟨y0, y1, y2, y3, rfl⟩ := spc_list hlen
  have c3 : Tryz.prog.cellsOf 3 = 1 := by kernel_rfl
  have c8 : Tryz.prog.cellsOf 5 = 1 := by kernel_rfl
  have f0 : DataW.trod enc Tryz.prog W 0 (fun _ => true) true n 5 [a0] = some y0 := by simpa [c8] using hfs 0 _ rfl
  have f1 : DataW.trod enc Tryz.prog W 0 (fun _ => true) true n 3 [a1] = some y1 := by simpa [c3] using hfs 1 _ rfl
  have f2 : DataW.trod enc Tryz.prog W 0 (fun _ => true) true n 3 [a2] = some y2 := by simpa [c3] using hfs 2 _ rfl
  have f3 : DataW.trod enc Tryz.prog W 0 (fun _ => true) true n 3 [a3] = some y3 := by simpa [c3] using hfs 3 _ rfl
  obtain ⟨V, e0, _, w0⟩ := DataW.trod_int Tryz.underlying5 f0
  obtain ⟨F, e1, _, w1⟩ := DataW.trod_int Tryz.underlying3 f1
  obtain ⟨D, e2, _, w2⟩ := DataW.trod_int Tryz.underlying3 f2
  obtain ⟨P, e3, _, w3⟩ := DataW.trod_int Tryz.underlying3 f3
  have b0 := bounds_u8 w0
  exact ⟨V, F, D, P, (List.cons.inj e0).1, (List.cons.inj e1).1, (List.cons.inj e2).1, (List.cons.inj e3).1, by omega, by omega⟩

set_option maxRecDepth 100000 in
theorem open_spc {H : Type} {enc : TypeId × Value → H} {W : World} {base : Nat} {v : Value} {d : DataW H} {p : List MemPlace} (hv : Value.okWide Tryz.prog W .any base 25 v) (h : DataW.Trod enc Tryz.prog W 0 (fun _ => true) true 25 v d p) :
    ∃ V F D P : Int, v = .agg #[.int .u8 V, .int .i64 F, .int .i64 D, .int .i64 P] ∧ (0 ≤ V ∧ V < 256) := by
  obtain ⟨cs, rfl, hs3⟩ := okWide_struct Tryz.underlying25 hv
  obtain ⟨a0, a1, a2, a3, rfl⟩ := spc_array (hs3.trans (show Tryz.prog.cellsOf 25 = 4 by kernel_rfl))
  obtain ⟨fuel, hf⟩ := h
  have hf' : DataW.trod enc Tryz.prog W 0 (fun _ => true) true fuel 25 [a0, a1, a2, a3] = some (d, p) := by simpa [Value.cells] using hf
  obtain ⟨V, F, D, P, e0, e1, e2, e3, h1⟩ := open_spc_cells (x := (d, p)) hf'
  rw [e0, e1, e2, e3]
  exact ⟨V, F, D, P, rfl, h1⟩
end Go.Proofs.YtaoaniigbooihaaGreatDoor
