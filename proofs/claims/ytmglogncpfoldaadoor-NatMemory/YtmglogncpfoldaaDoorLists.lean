/-
  LISTS OF LISTS, AND nat.Sum.
-/
import Derived.Test.YtmglogncpfoldaaDoorPush
namespace Go.Proofs.YtmglogncpfoldaaDoor
open Go.RowKit Go.Deep

/-- A slice of limbs that lies in a list: its header, and the limbs. -/
structure Item where
  p : Option Addr
  n : Nat
  c : Nat
  zs : List Int

def Item.v (it : Item) : Value := .slice it.p it.n it.c

/-- The headers of its lie at p. -/
def Holds (w : World) (p : Option Addr) (its : List Item) : Prop :=
  its = [] ∨ ∃ b off, p = some ⟨b, off, none⟩ ∧ ∀ i it, its[i]? = some it → w.cell? ⟨b, off + i, none⟩ = some (.slice it.p it.n it.c)

def Items (w : World) (its : List Item) : Prop := ∀ it ∈ its, Arg w it.p it.n it.c it.zs

def tot : List Item → Int
  | [] => 0
  | it :: r => Nm.val it.zs + tot r

theorem tot_append : ∀ a b, tot (a ++ b) = tot a + tot b
  | [], b => by simp [tot]
  | it :: r, b => by simp only [List.cons_append, tot, tot_append r b]; omega

theorem tot_snoc (a : List Item) (it : Item) : tot (a ++ [it]) = tot a + Nm.val it.zs := by rw [tot_append]; simp [tot]

theorem tot_take_succ (its : List Item) (j : Nat) (it : Item) (h : its[j]? = some it) : tot (its.take (j + 1)) = tot (its.take j) + Nm.val it.zs := by
  rw [List.take_add_one, h]
  exact tot_snoc _ _

theorem tot_reverse : ∀ its, tot its.reverse = tot its
  | [] => rfl
  | it :: r => by rw [List.reverse_cons, tot_snoc, tot_reverse r]; simp only [tot]; omega

theorem Holds.below {B : Nat} {w w' : World} {p : Option Addr} {its : List Item} (h : Holds w p its) (hb : Below B w w') (hB : w.heap.size ≤ B) : Holds w' p its := by
  rcases h with rfl | ⟨b, off, hp, h⟩
  · exact .inl rfl
  · refine .inr ⟨b, off, hp, fun i it hi => ?_⟩
    have hc := h i it hi
    rw [hb.cell (p := ⟨b, off + i, none⟩) (Nat.lt_of_lt_of_le (cell_lt hc) hB)]
    exact hc

theorem Items.below {B : Nat} {w w' : World} {its : List Item} (h : Items w its) (hb : Below B w w') (hB : w.heap.size ≤ B) : Items w' its := fun it hi => (h it hi).below hb hB

theorem Items.at {w : World} {its : List Item} (h : Items w its) {j : Nat} {it : Item} (hj : its[j]? = some it) : Arg w it.p it.n it.c it.zs := h it (List.mem_of_getElem? hj)

theorem item_at (its : List Item) (j : Nat) (h : j < its.length) : ∃ it, its[j]? = some it := ⟨_, List.getElem?_eq_getElem h⟩

theorem tot_bd {w : World} {M : Nat} : ∀ (its : List Item), Items w its → (∀ it ∈ its, Nm.tsize it.zs ≤ M) → 0 ≤ tot its ∧ tot its ≤ (its.length : Int) * Nm.pw M
  | [], _, _ => by simp [tot]
  | it :: r, hi, ht => by
    have h1 := tot_bd r (fun x hx => hi x (List.mem_cons_of_mem _ hx)) (fun x hx => ht x (List.mem_cons_of_mem _ hx))
    have hL := (hi it List.mem_cons_self).2.2.2.2
    have h2 := (Nm.val_bd it.zs hL).1
    have h3 := (Nm.tsize_le_iff hL M).1 (ht it List.mem_cons_self)
    simp only [tot, List.length_cons, Int.natCast_add, Int.natCast_one, Int.add_mul, Int.one_mul]
    omega

/-- What Sum answers. -/
def SumSays (w : World) (its : List Item) (e : Ending) (w' : World) : Prop :=
  (((∃ it ∈ its, 4096 < Nm.tsize it.zs) ∨ Nm.pw 4096 ≤ tot its) ∧ e = .returned (.tuple #[.slice none 0 0, .int .i64 2]) ∨
   ((∀ it ∈ its, Nm.tsize it.zs ≤ 4096) ∧ tot its < Nm.pw 4096) ∧ ∃ r os, e = .returned (.tuple #[.slice r (List.length os) (List.length os), .int .i64 0]) ∧ Ans w.heap.size w' r os (tot its)) ∧ Below w.heap.size w w'

/-- The block in which a sum grows. -/
def SumInv (g k : Nat) (T : Int) (w wr : World) : Prop := ∃ os, Own wr g os ∧ os.length = k ∧ Nm.Limbs os ∧ Nm.val os = T ∧ Below g w wr

set_option maxRecDepth 20000 in
set_option maxHeartbeats 4000000 in
theorem sum_any (p : Option Addr) (n cap : Nat) (its : List Item) (w : World) (hn : its.length = n) (hc : n ≤ cap) (hm : n ≤ 1048577) (hp : Holds w p its) (hi : Items w its) :
    Calls Tryd.prog 43 #[.slice p n cap] w fun e w' => SumSays w its e w' := by
  have LN := hid hn
  have HI := hid hi
  rcases hp with rfl | ⟨b, off, rfl, hcell⟩
  · have hn0 : n = 0 := by simpa using hn.symm
    subst hn0
    have hmk := make64 1 (by omega) w
    have bm := (Below.refl w.heap.size w).alloc (Nat.le_refl _) (.cells (madeCells #[.int .u64 0] 1) 28)
    have ow : Own (w.alloc (.cells (madeCells #[.int .u64 0] 1) 28)) w.heap.size [0] := by rw [made_zero]; exact Own.alloc w _
    rw [show ((1 : Nat) : Int) = 1 from rfl] at hmk
    generalize w.alloc (.cells (madeCells #[.int .u64 0] 1) 28) = wm at hmk bm ow
    have BM := hid bm
    have OW := hid ow
    clear hn hi bm ow
    go_enter Tryd.func43, Tryd.ntmps43
    go_wp2
    refine wp_loop_rounds 1 ?_
    rw [rounds_succ]
    go_wp2
    refine wp_loop_rounds 1 ?_
    rw [rounds_succ]
    go_wp2_with fail
    refine (limited_own w.heap.size 1 [0] wm rfl (by omega) OW.out (one_limb (by omega)) w.heap.size (Nat.le_refl _) (by have := Nm.pw_pos 4096; simp [Nm.val]; omega)).mono ?_
    rintro e w' ⟨r, os, rfl, hA, rfl⟩
    have A := hid hA
    clear hA
    go_wp2
    go_ret2
    exact ⟨.inr ⟨⟨by simp, Nm.pw_pos 4096⟩, r, os, rfl, A.out⟩, BM.out⟩
  · have HC := hid hcell
    clear hn hi hcell
    go_enter Tryd.func43, Tryd.ntmps43
    go_wp2
    go_loop [4, 14] (fun m i => ∃ (j M : Nat), j ≤ n ∧ i = .int .i64 j ∧ m = .int .i64 M ∧ M ≤ 4096 ∧ Hid (∀ it ∈ its.take j, Nm.tsize it.zs ≤ M)) (fun _ i => n - (intOf i).toNat)
    case atStart => exact ⟨0, 0, Nat.zero_le _, rfl, rfl, by omega, by simp [Hid]⟩
    case round =>
      obtain ⟨j, M, hj, rfl, rfl, hM, HM⟩ := hrel
      by_cases hlt : j < n
      · obtain ⟨it, IT⟩ : ∃ it, Hid (its[j]? = some it) := item_at its j (by have := LN.out; omega)
        obtain ⟨a1, a2, a3, a4, a5⟩ := HI.out.at IT.out
        obtain ⟨q, m, c, zs⟩ := it
        simp only at a1 a2 a3 a4 a5
        have hcl := HC.out j _ IT.out
        simp only at hcl
        have A1 := hid a1
        have A4 := hid a4
        have hlt' : (j : Int) < (n : Int) := by omega
        have hcm : m ≤ c := a2
        clear a1 a2 a4 a5
        by_cases hb : 4096 < Nm.tsize zs
        · have BG := hid hb
          go_wp2_with fail
          refine (limited_big q m c zs _ A1.out hcm (by omega) A4.out hb).mono ?_
          rintro e w' ⟨rfl, rfl⟩
          clear hb
          have E : Hid (SumSays w' its (.returned (.tuple #[.slice none 0 0, .int .i64 2])) w') := ⟨.inl ⟨.inl ⟨_, List.mem_of_getElem? IT.out, BG.out⟩, rfl⟩, Below.refl _ _⟩
          go_wp2
          go_ret2
          exact E.out
        · obtain ⟨t, T⟩ : ∃ t, Hid (Nm.tsize zs = t) := ⟨_, rfl⟩
          have ht : t ≤ 4096 := by have := T.out; omega
          have LI := limited_ok q m c zs w A1.out hcm (by omega) A4.out (by omega)
          rw [T.out] at LI
          have HL := hid LI
          clear LI hb
          go_wp2_with fail
          refine HL.out.mono ?_
          rintro e w' ⟨rfl, rfl⟩
          clear HL
          go_wp2
          go_round
          case rel =>
            refine ⟨j + 1, if M < t then t else M, by omega, by go_num, by split <;> rfl, by split <;> omega, ?_⟩
            intro it hit
            rw [List.take_add_one, IT.out] at hit
            rcases List.mem_append.1 hit with h | h
            · have := HM.out it h; split <;> omega
            · obtain rfl : it = _ := by simpa using h
              have := T.out
              simp only
              split <;> omega
          case measure => simp [intOf]; omega
      · obtain rfl : j = n := by omega
        have HM2 : Hid (∀ it ∈ its, Nm.tsize it.zs ≤ M) := by have := HM.out; rw [List.take_of_length_le (by have := LN.out; omega)] at this; exact this
        clear HM hlt
        have hmk := make64 (M + 1) (by omega) w
        rw [show ((M + 1 : Nat) : Int) = (M : Int) + 1 by omega] at hmk
        have bm := (Below.refl w.heap.size w).alloc (Nat.le_refl _) (.cells (madeCells #[.int .u64 0] (M + 1)) 28)
        have ow : Own (w.alloc (.cells (madeCells #[.int .u64 0] (M + 1)) 28)) w.heap.size (List.replicate (M + 1) 0) := by rw [made_zero]; exact Own.alloc w _
        generalize w.alloc (.cells (madeCells #[.int .u64 0] (M + 1)) 28) = wm at hmk bm ow
        have S0 : Hid (SumInv w.heap.size (M + 1) (tot (its.take 0)) w wm) := ⟨_, ow, by simp, Nm.Limbs.replicate _, by rw [Nm.val_replicate]; rfl, bm⟩
        obtain ⟨K, HK⟩ : ∃ K, Hid (M + 1 = K) := ⟨_, rfl⟩
        have hK : K ≤ 4097 := by have := HK.out; omega
        have TB : Hid (∀ i, i ≤ j → tot (its.take i) < Nm.pw K) := by
          intro i hi'
          have h := tot_bd (M := M) (its.take i) (fun x hx => HI.out x (List.mem_of_mem_take hx)) (fun x hx => HM2.out x (List.mem_of_mem_take hx))
          have hp := Nm.pw_pos M
          rw [← HK.out, Nm.pw_succ]
          have hl : ((its.take i).length : Int) ≤ 1048577 := by rw [List.length_take]; omega
          have := Int.mul_le_mul_of_nonneg_right hl (show 0 ≤ Nm.pw M by omega)
          omega
        rw [HK.out] at hmk S0
        clear bm ow
        go_wp2
        clear hmk
        go_loopw [36] (fun i wr => ∃ k : Nat, k ≤ j ∧ i = .int .i64 k ∧ Hid (SumInv w.heap.size K (tot (its.take k)) w wr)) (fun i _ => j - (intOf i).toNat)
        case atStart => exact ⟨0, Nat.zero_le _, rfl, S0.out⟩
        case round =>
          obtain ⟨k, hk, rfl, SI⟩ := hrel
          obtain ⟨os, o1, o2, o3, o4, o5⟩ := SI.out
          by_cases hlt : k < j
          · obtain ⟨it, IT⟩ : ∃ it, Hid (its[k]? = some it) := item_at its k (by have := LN.out; omega)
            have ar := HI.out.at IT.out
            obtain ⟨q, m, c, zs⟩ := it
            simp only at ar
            have hcl := (o5.cell (p := ⟨b, off + k, none⟩) (cell_lt (HC.out k _ IT.out))).trans (HC.out k _ IT.out)
            simp only at hcl
            have T0 := tot_take_succ its k _ IT.out
            simp only at T0
            have TT : Hid (Nm.val os + Nm.val (Nm.trim zs) = tot (its.take (k + 1))) := by rw [Hid, T0, o4, Nm.val_trim]
            have LT : Hid (Nm.val os + Nm.val (Nm.trim zs) < Nm.pw K) := by rw [Hid, TT.out]; exact TB.out (k + 1) (by omega)
            have tz : Nm.tsize zs ≤ M := HM2.out _ (List.mem_of_getElem? IT.out)
            have AR := hid ar
            have AR2 := hid (ar.below o5 (Nat.le_refl _))
            have O1 := hid o1
            have O2 := hid o2
            have O3 := hid o3
            have O5 := hid o5
            have hlt' : (k : Int) < (j : Int) := by omega
            have tk : Nm.tsize zs ≤ K := by have := HK.out; omega
            clear o1 o2 o3 o4 o5 SI T0 ar
            go_wp2_with fail
            refine (trimmed_any q m c zs _ AR2.out.1 AR2.out.2.1 (by have := AR2.out.2.2.1; omega) AR2.out.2.2.2.1).mono ?_
            rintro e w' ⟨rfl, rfl⟩
            go_wp2_with fail
            refine (addTo_any w.heap.size K os q (Nm.tsize zs) (Nm.tsize zs) (Nm.trim zs) _ O2.out (by omega) O1.out O3.out (Nm.trim_length zs) tk AR2.out.2.2.2.1.trim AR2.out.2.2.2.2.trim (fun h0 => AR.out.2.2.2.1.trim.lt h0) LT.out).mono ?_
            rintro e w2 ⟨rfl, us, u1, u2, u3, u4, u5, u6⟩
            have SN : Hid (SumInv w.heap.size K (tot (its.take (k + 1))) w w2) := ⟨us, u1, u2, u3, u4.trans TT.out, O5.out.trans u5⟩
            clear u1 u2 u3 u4 u5 u6
            go_wp2
            go_roundw
            case rel => exact ⟨k + 1, by omega, by go_num, SN.out⟩
            case measure => simp [intOf]; omega
          · obtain rfl : k = j := by omega
            rw [List.take_of_length_le (by have := LN.out; omega)] at o4
            have hlt' : ¬ (k : Int) < (k : Int) := by omega
            have ALL : Hid (∀ it ∈ its, Nm.tsize it.zs ≤ 4096) := fun it h => Nat.le_trans (HM2.out it h) hM
            by_cases hbig : Nm.pw 4096 ≤ tot its
            · have LB := hid (limited_own_big w.heap.size K os wr o2 (by omega) o1 o3 (by rw [o4]; exact hbig))
              have E : Hid (SumSays w its (.returned (.tuple #[.slice none 0 0, .int .i64 2])) wr) := ⟨.inl ⟨.inr hbig, rfl⟩, o5⟩
              clear o1 o2 o3 o4 o5 SI hbig
              go_wp2_with fail
              refine LB.out.mono ?_
              rintro e w' ⟨rfl, rfl⟩
              go_wp2
              go_ret2
              exact E.out
            · have LB := limited_own w.heap.size K os wr o2 (by omega) o1 o3 w.heap.size (Nat.le_refl _) (by rw [o4]; omega)
              rw [o4] at LB
              have HL := hid LB
              have LT : Hid (tot its < Nm.pw 4096) := by show _ < _; omega
              have O5 := hid o5
              clear o1 o2 o3 o4 o5 SI hbig LB
              go_wp2_with fail
              refine HL.out.mono ?_
              rintro e w' ⟨r, ys, rfl, hA, rfl⟩
              have A := hid hA
              clear hA
              go_wp2
              go_ret2
              exact ⟨.inr ⟨⟨ALL.out, LT.out⟩, r, ys, rfl, A.out⟩, O5.out⟩
end Go.Proofs.YtmglogncpfoldaaDoor
