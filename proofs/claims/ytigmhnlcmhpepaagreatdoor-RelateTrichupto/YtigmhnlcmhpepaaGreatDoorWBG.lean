/-
  Texts put together: ReTrV, RelateTrichUptoRow.
-/
import Derived.Test.YtigmhnlcmhpepaaGreatDoorWBE
import Derived.Test.YtigmhnlcmhpepaaGreatDoorWBF
import Derived.Test.YtigmhnlcmhpepaaGreatDoorCards
import Derived.Test.YtigmhnlcmhpepaaGreatDoorTie
import Derived.Test.YtigmhnlcmhpepaaGreatDoorWAD
import Derived.Test.YtigmhnlcmhpepaaGreatDoorWAG
import Derived.Test.YtigmhnlcmhpepaaGreatDoorGBulk
import Derived.Lib.LaidCaseMet
import Derived.Deep.DeepWitnessRowRef
import Derived.WalkKit
import Derived.ProofKit
import Derived.OpenShut
import Derived.SizedLaws
import Derived.Deep.DeepHandedRow
import Derived.Lib.LaidTab
import Derived.SevenTiedAt
import Derived.Below
import Derived.ChangeMaps5
namespace Go.Proofs.YtigmhnlcmhpepaaGreatDoor
open Go Go.RowKit Go.Deep Go.Shelf

namespace Re
theorem cn_of {a b : Int} (ha : Ie.okd a = true) (hb : Ie.okd b = true) : cn a b = Ie.cm (Ie.rk a) (Ie.rk b) := by
  unfold cn Ie.cmv
  rw [ha, hb]
  simp
theorem cn_nan {a b : Int} (h : Ie.okd a = false ∨ Ie.okd b = false) : cn a b = 2 := by
  unfold cn
  rcases h with h | h <;> rw [h] <;> simp
theorem icm_anti (x y : Int) : Ie.cm y x = - Ie.cm x y := by
  rcases icm_c x y with ⟨a, b⟩ | ⟨a, b⟩ | ⟨a, b⟩ <;> rcases icm_c y x with ⟨c, d⟩ | ⟨c, d⟩ | ⟨c, d⟩ <;> first
    | (exfalso; omega)
    | (rw [b, d] <;> rfl)
theorem lex_b (A B : ByteArray) : Sc.lex (bl A) (bl B) = -1 ∨ Sc.lex (bl A) (bl B) = 0 ∨ Sc.lex (bl A) (bl B) = 1 := cm_b (.tx A) (.tx B)
theorem lex_anti (A B : ByteArray) : Sc.lex (bl B) (bl A) = - Sc.lex (bl A) (bl B) := cm_anti (.tx A) (.tx B)
end Re

theorem rtrich_law (k n : Int) (s : ByteArray) (l m : Int) (t c : ByteArray) (ts us xs : List Int) (w : World) (hT : Tab w) (ht : Tab10 w)
    (n0 : 0 ≤ n) (n1 : n < 18446744073709551616) (m0 : 0 ≤ m) (m1 : m < 18446744073709551616)
    (hs : Str s ts) (hsl : ts.length ≤ 140737488355328) (hu : Str t us) (hul : us.length ≤ 140737488355328) (hc : Str c xs) (hl : xs.length ≤ 16777216) :
    Calls Tryz.prog 3 #[.agg #[.int .i64 k, .int .u64 n, .string s], .agg #[.int .i64 l, .int .u64 m, .string t], .string c] w fun e w' => e = .returned (.bool true) ∧ Below w.heap.size w w' := by
  have AW : ∀ W, Below w.heap.size w W → Calls Tryz.prog 5 #[] W fun e w' => e = .returned (.bool true) ∧ Below W.heap.size W w' := fun W h => rawake_any W (ht.bel h)
  have WA := fun W (h : Below w.heap.size w W) => rwritten_all k n s c ts xs W (hT.below h) (ht.bel h) n0 n1 hs hsl hc hl
  have WB := fun W (h : Below w.heap.size w W) => rwritten_all l m t c us xs W (hT.below h) (ht.bel h) m0 m1 hu hul hc hl
  have HOLD : ∀ C E : Int, (E = 0 → C = -1 ∨ C = 0 ∨ C = 1 ∨ C = 2) → (∀ W, Below w.heap.size w W → Calls Tryz.prog 6 #[.agg #[.int .i64 k, .int .u64 n, .string s], .agg #[.int .i64 l, .int .u64 m, .string t], .string c] W fun e w' => e = .returned (.tuple #[.int .i64 C, .int .i64 E]) ∧ Below W.heap.size W w') →
      ∀ j : Nat, 1 ≤ j → j ≤ 6 → ∀ W, Below w.heap.size w W → Calls Tryz.prog 7 #[.int .i64 (j : Int), .agg #[.int .i64 k, .int .u64 n, .string s], .agg #[.int .i64 l, .int .u64 m, .string t], .string c] W fun e w' => e = .returned (.tuple #[.bool (decide (E = 0) && Re.ag (j : Int) C), .int .i64 E]) ∧ Below W.heap.size W w' := by
    intro C E hC CP j j1 j6 W hW
    by_cases e : E = 0
    · subst e
      rw [decide_eq_true rfl, Bool.true_and]
      exact holds_any (j : Int) k n s l m t c C W (by omega) (hC rfl) (fun W' h => CP W' (below_on hW h))
    · rw [decide_eq_false e, Bool.false_and]
      exact holdsX_any (j : Int) k n s l m t c C E W (by omega) e (fun W' h => CP W' (below_on hW h))
  have IA : decide (k ≠ 2) = true → ∀ W, Calls Tryz.prog 9 #[.agg #[.int .i64 k, .int .u64 n, .string s]] W fun e w' => e = .returned (.bool (!Ie.okd (Re.nu k n))) ∧ Below W.heap.size W w' := fun h W => risnan_any k n s W n0 n1 (of_decide_eq_true h)
  have IB : decide (l ≠ 2) = true → ∀ W, Calls Tryz.prog 9 #[.agg #[.int .i64 l, .int .u64 m, .string t]] W fun e w' => e = .returned (.bool (!Ie.okd (Re.nu l m))) ∧ Below W.heap.size W w' := fun h W => risnan_any l m t W m0 m1 (of_decide_eq_true h)
  by_cases hk : k ≠ 2 ∧ l ≠ 2
  · have CA := fun W (_ : Below w.heap.size w W) => compareN_any k n s l m t c W n0 n1 m0 m1 hk.1 hk.2
    have CB := fun (_ : (0 : Int) = 0) W (_ : Below w.heap.size w W) => compareN_any l m t k n s c W m0 m1 n0 n1 hk.2 hk.1
    have pa : decide (k ≠ 2) = true := decide_eq_true hk.1
    have pb : decide (l ≠ 2) = true := decide_eq_true hk.2
    cases ha : Ie.okd (Re.nu k n) with
    | false =>
      refine rtrich_of k n s l m t c _ 0 _ 0 _ _ _ _ w (.nan rfl rfl (Re.cn_nan (.inl ha)) (Re.cn_nan (.inr ha)) pa pb (by rw [ha]; rfl)) AW CA (HOLD _ 0 (fun _ => .inr (.inr (.inr (Re.cn_nan (.inl ha))))) CA) CB (fun W => vnumeric_any k n s W) (fun W => vnumeric_any l m t W) IA IB
    | true =>
      cases hb : Ie.okd (Re.nu l m) with
      | false =>
        refine rtrich_of k n s l m t c _ 0 _ 0 _ _ _ _ w (.nan2 rfl rfl (Re.cn_nan (.inr hb)) (Re.cn_nan (.inl hb)) pa pb (by rw [ha]; rfl) (by rw [hb]; rfl)) AW CA (HOLD _ 0 (fun _ => .inr (.inr (.inr (Re.cn_nan (.inr hb))))) CA) CB (fun W => vnumeric_any k n s W) (fun W => vnumeric_any l m t W) IA IB
      | true =>
        have c3 : Re.cn (Re.nu k n) (Re.nu l m) = -1 ∨ Re.cn (Re.nu k n) (Re.nu l m) = 0 ∨ Re.cn (Re.nu k n) (Re.nu l m) = 1 := by
          rw [Re.cn_of ha hb]
          rcases Re.icm_c (Ie.rk (Re.nu k n)) (Ie.rk (Re.nu l m)) with ⟨_, h⟩ | ⟨_, h⟩ | ⟨_, h⟩ <;> rw [h] <;> simp
        have d3 : Re.cn (Re.nu l m) (Re.nu k n) = - Re.cn (Re.nu k n) (Re.nu l m) := by
          rw [Re.cn_of ha hb, Re.cn_of hb ha, Re.icm_anti]
        refine rtrich_of k n s l m t c _ 0 _ 0 _ _ _ _ w (.nu rfl rfl c3 d3 pa pb (by rw [ha]; rfl) (by rw [hb]; rfl)) AW CA (HOLD _ 0 (fun _ => by omega) CA) CB (fun W => vnumeric_any k n s W) (fun W => vnumeric_any l m t W) IA IB
  · have h2 : k = 2 ∨ l = 2 := by omega
    have h2' : l = 2 ∨ k = 2 := h2.symm
    generalize hA : strOfNums (Va.toT k n ts xs) = A at *
    generalize hB : strOfNums (Va.toT l m us xs) = B at *
    by_cases ea : Va.toE k n xs = 0
    · rw [ea] at WA
      by_cases eb : Va.toE l m xs = 0
      · rw [eb] at WB
        have CA := fun W (h : Below w.heap.size w W) => compareS_any k n s l m t c A B W h2 (fun W' h' => WA W' (below_on h h')) (fun W' h' => WB W' (below_on h h'))
        have CB := fun (_ : (0 : Int) = 0) W (h : Below w.heap.size w W) => compareS_any l m t k n s c B A W h2' (fun W' h' => WB W' (below_on h h')) (fun W' h' => WA W' (below_on h h'))
        have c3 := Re.lex_b A B
        have d3 := Re.lex_anti A B
        by_cases k2 : k = 2
        · refine rtrich_of k n s l m t c _ 0 _ 0 _ _ _ _ w (.tx rfl rfl c3 d3 (decide_eq_false (fun q => q k2))) AW CA (HOLD _ 0 (fun _ => by omega) CA) CB (fun W => vnumeric_any k n s W) (fun W => vnumeric_any l m t W) IA IB
        · refine rtrich_of k n s l m t c _ 0 _ 0 _ _ _ _ w (.tx2 rfl rfl c3 d3 (decide_eq_true k2) (decide_eq_false (fun q => q (h2.resolve_left k2)))) AW CA (HOLD _ 0 (fun _ => by omega) CA) CB (fun W => vnumeric_any k n s W) (fun W => vnumeric_any l m t W) IA IB
      · have CA := fun W (h : Below w.heap.size w W) => compareY_any k n s l m t c A B _ W h2 eb (fun W' h' => WA W' (below_on h h')) (fun W' h' => WB W' (below_on h h'))
        by_cases k2 : k = 2
        · refine rtrich_of k n s l m t c _ _ 0 0 _ _ _ _ w (.err eb rfl (decide_eq_false (fun q => q k2))) AW CA (HOLD _ _ (fun z => absurd z eb) CA) (fun z => absurd z eb) (fun W => vnumeric_any k n s W) (fun W => vnumeric_any l m t W) IA IB
        · refine rtrich_of k n s l m t c _ _ 0 0 _ _ _ _ w (.err2 eb rfl (decide_eq_true k2) (decide_eq_false (fun q => q (h2.resolve_left k2)))) AW CA (HOLD _ _ (fun z => absurd z eb) CA) (fun z => absurd z eb) (fun W => vnumeric_any k n s W) (fun W => vnumeric_any l m t W) IA IB
    · have CA := fun W (h : Below w.heap.size w W) => compareX_any k n s l m t c A _ W h2 ea (fun W' h' => WA W' (below_on h h'))
      by_cases k2 : k = 2
      · refine rtrich_of k n s l m t c _ _ 0 0 _ _ _ _ w (.err ea rfl (decide_eq_false (fun q => q k2))) AW CA (HOLD _ _ (fun z => absurd z ea) CA) (fun z => absurd z ea) (fun W => vnumeric_any k n s W) (fun W => vnumeric_any l m t W) IA IB
      · refine rtrich_of k n s l m t c _ _ 0 0 _ _ _ _ w (.err2 ea rfl (decide_eq_true k2) (decide_eq_false (fun q => q (h2.resolve_left k2)))) AW CA (HOLD _ _ (fun z => absurd z ea) CA) (fun z => absurd z ea) (fun W => vnumeric_any k n s W) (fun W => vnumeric_any l m t W) IA IB
end Go.Proofs.YtigmhnlcmhpepaaGreatDoor

namespace Go.Proofs.YtigmhnlcmhpepaaGreatDoor.relateTrich
open Go.ChangeShapes Go.WideShapes Go.ChangeAt Go.RowKit

theorem own : ownKnob Tryz.prog.godebug = none := by kernel_rfl
theorem laidOut : laidOutB Tryz.prog = true := by kernel_rfl

set_option maxRecDepth 100000 in
theorem contract (H : Type) (enc : TypeId × Value → H) (W : World) (base : Nat) (args : Array Value) (ds gs : List (DataW H)) (before : List MemPlace)
    (hval : ∀ (j : Nat) t v, Tryz.f3.params[j]? = some t → args[j]? = some v → Value.okWide Tryz.prog W .any base t v)
    (hW : DataW.Whole enc Tryz.prog Tryz.f3.params.toList Rows.relateTrichSpec.vars false W args.toList ds gs before)
    (hsz : (DataW.weightsEach Tryz.prog (Tryz.f3.params.toList ++ Rows.relateTrichSpec.plain.varTypes Tryz.prog) (ds ++ gs)).all (· ≤ reachBytes) = true) (hT : Tab W ∧ Tab10 W) (hk : Rows.uptoSmall H (ds ++ gs) = true) :
    Calls Tryz.prog 3 args W fun e W' => ∃ v, e = .returned v ∧ Rows.relateTrichSpec.post enc Tryz.prog Tryz.f3 false true false false W args v W' := by
  have hW' := hW
  obtain ⟨p, q, hA0, hV, rfl, _, _⟩ := hW
  have hA : DataW.TrodAll enc Tryz.prog W 0 (fun _ => true) true Tryz.f3.params.toList args.toList ds p := hA0
  rw [Tryz.params3] at hA hval hsz
  obtain ⟨v0, vs0, d0, ds0, p0, q0, hargs, rfl, rfl, h0, r0⟩ := trodAll_cons hA
  obtain ⟨v1, vs1, d1, ds1, p1, q1, rfl, rfl, rfl, h1, r1⟩ := trodAll_cons r0
  obtain ⟨v2, vs2, d2, ds2, p2, q2, rfl, rfl, rfl, h2, r2⟩ := trodAll_cons r1
  obtain ⟨rfl, rfl, rfl⟩ := trodAll_nil r2
  obtain rfl : args = #[v0, v1, v2] := by cases args; simp_all
  obtain ⟨rfl, rfl⟩ := trodVars_none hV
  have k0 := h0
  have lt0 : ∀ x ∈ p0, x.block < W.heap.size := by obtain ⟨m, hm⟩ := k0; exact DataW.trod_lt m _ _ _ hm
  have hw0 : ∀ n ∈ d0.weights Tryz.prog 24, n ≤ reachBytes := fun n hn => by
    have := List.all_eq_true.1 hsz n (DataW.weights_mem_each (j := 0) (t := 24) (d := d0) rfl rfl n hn)
    simpa using this
  obtain ⟨Z0, rfl, y0, n0⟩ := open_val (hval 0 24 v0 rfl rfl) h0 hw0
  have k1 := h1
  have lt1 : ∀ x ∈ p1, x.block < W.heap.size := by obtain ⟨m, hm⟩ := k1; exact DataW.trod_lt m _ _ _ hm
  have hw1 : ∀ n ∈ d1.weights Tryz.prog 24, n ≤ reachBytes := fun n hn => by
    have := List.all_eq_true.1 hsz n (DataW.weights_mem_each (j := 1) (t := 24) (d := d1) rfl rfl n hn)
    simpa using this
  obtain ⟨Z1, rfl, y1, n1⟩ := open_val (hval 1 24 v1 rfl rfl) h1 hw1
  obtain ⟨s2, rfl, rfl, rfl, w2⟩ := Go.ChangeMaps.open_string Tryz.underlying9 (hval 2 9 v2 rfl rfl) h2
  have hk2 : Rows.uptoBulkAll (_) ≤ 1048576 := of_decide_eq_true hk
  simp only [List.append_nil, Rows.uptoBulkAll, Rows.uptoBulk] at hk2
  clear hA0
  refine (rtrich_law Z0.k Z0.n _ Z1.k Z1.n _ _ Z0.s Z1.s _ W hT.1 hT.2 y0.2.1.1 y0.2.1.2 y1.2.1.1 y1.2.1.2 (Str.of_nums y0.1) (Nat.le_trans y0.2.2 (by decide)) (Str.of_nums y1.1) (Nat.le_trans y1.2.2 (by decide)) (Str.self s2) (by rw [List.length_map]; omega)).mono fun e W' ⟨he, bel⟩ => ?_
  subst he
  exact ⟨_, rfl, _, _, _, [], _, [], hW', trodAll_mk1 (shut_bool Tryz.underlying4 _), (trodAll_cons_mk (Below.trod laidOut (by kernel_rfl) (of_decide_eq_true (by kernel_rfl)) k0 bel lt0) (trodAll_cons_mk (Below.trod laidOut (by kernel_rfl) (of_decide_eq_true (by kernel_rfl)) k1 bel lt1) (trodAll_cons_mk (Go.ChangeMaps.shut_string Tryz.underlying9 w2) trodAll_mk0))), rfl, bel.frame _, fun h => by cases h⟩
theorem table {W : World} (h : laidMet Tryz.prog Rows.relateTrichUptoRow.laid W) : Tab W ∧ Tab10 W := tables12 h

/-- A world whose block holds the table: for the witness. -/
def lay4 : List Int := [0, 1, 28, 2, 29, 14, 24, 3, 30, 22, 20, 15, 25, 17, 4, 8, 31, 27, 13, 23, 21, 19, 16, 7, 26, 12, 18, 6, 11, 5, 10, 9]
def lay5 : List Int := [0, 1, 56, 2, 57, 49, 28, 3, 61, 58, 42, 50, 38, 29, 17, 4, 62, 47, 59, 36, 45, 43, 51, 22, 53, 39, 33, 30, 24, 18, 12, 5, 63, 55, 48, 27, 60, 41, 37, 16, 46, 35, 44, 21, 52, 32, 23, 11, 54, 26, 40, 15, 34, 20, 31, 10, 25, 14, 19, 9, 13, 8, 7, 6]
def lay1 : List Int := Lib.pow10Tab
def lay3 : List Int := [128, 191, 160, 191, 128, 159, 144, 191, 128, 143] ++ List.replicate 22 0
def lay2 : List Int := Go.Pinned.utf8FirstZ.map Int.ofNat
noncomputable def laidWorld (os : Os) : World :=
  let N := (World.settled Tryz.prog os).heap.size
  let w0 := World.holding Tryz.prog os ⟨#[.cells Lib.caseCells5 (jren.t 208)], #[], []⟩
  let put (h : Array Obj) (g : Nat) (cs : Array Value) : Array Obj := h.modify g fun
    | .cells _ t frozen => .cells cs t frozen
    | o => o
  let h0 := put w0.heap 4 (lay4.map (Value.int .u8)).toArray
  let h1 := put h0 5 (lay5.map (Value.int .u8)).toArray
  let h2 := put h1 1 (lay1.map (Value.int .u64)).toArray
  let h3 := put h2 3 (lay3.map (Value.int .u8)).toArray
  let h4 := put h3 2 (lay2.map (Value.int .u8)).toArray
  let hc := put h4 6 #[.slice (some ⟨N, 0, none⟩) 336 336]
  { w0 with heap := hc }
set_option maxRecDepth 100000 in
theorem laid_met (os : Os) : laidMet Tryz.prog Rows.relateTrichUptoRow.laid ((laidWorld os).forCall (fun _ _ => 0) ⟨#[], #[.agg #[.int .i64 0, .int .u64 0, .string ⟨#[]⟩], .agg #[.int .i64 0, .int .u64 0, .string ⟨#[]⟩], .string ⟨#[]⟩], []⟩).memory := by
  have q := laidMet_with_case (P := Tryz.prog) (ρ := jren) (w := ((laidWorld os).forCall (fun _ _ => 0) ⟨#[], #[.agg #[.int .i64 0, .int .u64 0, .string ⟨#[]⟩], .agg #[.int .i64 0, .int .u64 0, .string ⟨#[]⟩], .string ⟨#[]⟩], []⟩).memory) { upLays with } upLays.t206 ⟨by kernel_rfl, by kernel_rfl, by kernel_rfl, by kernel_rfl, by kernel_rfl, by kernel_rfl⟩
    (l := [("math/bits.deBruijn32tab", Rows.laid_math_bits_deBruijn32tab), ("math/bits.deBruijn64tab", Rows.laid_math_bits_deBruijn64tab), ("internal/strconv.uint64pow10", Rows.laid_internal_strconv_uint64pow10), ("unicode/utf8.acceptRanges", Rows.laid_unicode_utf8_acceptRanges), ("unicode/utf8.first", Rows.laid_unicode_utf8_first)])
    10 (by kernel_rfl) (by kernel_rfl) (by kernel_rfl) ((World.settled Tryz.prog default).heap.size) (jren.t 208) (of_decide_eq_true (by kernel_rfl)) (by kernel_rfl) (by kernel_rfl) (by kernel_rfl)
  rw [show Rows.relateTrichUptoRow.laid = [("math/bits.deBruijn32tab", Rows.laid_math_bits_deBruijn32tab), ("math/bits.deBruijn64tab", Rows.laid_math_bits_deBruijn64tab), ("internal/strconv.uint64pow10", Rows.laid_internal_strconv_uint64pow10), ("unicode/utf8.acceptRanges", Rows.laid_unicode_utf8_acceptRanges)] ++ [("unicode.CaseRanges", Rows.laid_unicode_CaseRanges), ("unicode/utf8.first", Rows.laid_unicode_utf8_first)] from rfl, case_laid]
  exact laidMet_swap (l := [("math/bits.deBruijn32tab", Rows.laid_math_bits_deBruijn32tab), ("math/bits.deBruijn64tab", Rows.laid_math_bits_deBruijn64tab), ("internal/strconv.uint64pow10", Rows.laid_internal_strconv_uint64pow10), ("unicode/utf8.acceptRanges", Rows.laid_unicode_utf8_acceptRanges)]) q
theorem reads (os : Os) {H : Type} (enc : TypeId × Value → H) : ∃ places, DataW.whole enc Tryz.prog ((laidWorld os).forCall (fun _ _ => 0) ⟨#[], #[.agg #[.int .i64 0, .int .u64 0, .string ⟨#[]⟩], .agg #[.int .i64 0, .int .u64 0, .string ⟨#[]⟩], .string ⟨#[]⟩], []⟩).memory Tryz.f3.params.toList Rows.relateTrichSpec.vars false #[Value.agg #[.int .i64 0, .int .u64 0, .string ⟨#[]⟩], .agg #[.int .i64 0, .int .u64 0, .string ⟨#[]⟩], .string ⟨#[]⟩].toList 8 = some ([.agg [.lit (.int .i64 0), .lit (.int .u64 0), .lit (.string [])], .agg [.lit (.int .i64 0), .lit (.int .u64 0), .lit (.string [])], .lit (.string [])], [], places) :=
  ⟨[], by kernel_rfl⟩

set_option maxRecDepth 100000 in
theorem lifted (os : Os) (started : os.Started) (H : Type) (enc : TypeId × Value → H) (F : Stop.Interp) :
    ReturnsInHanded {} Tryz.checked os 3 .any ((Rows.OpenSpec.upto Rows.relateTrichSpec).preRow enc Tryz.prog Tryz.f3 Rows.relateTrichUptoRow.domain false Rows.relateTrichUptoRow.laid) (((Rows.OpenSpec.upto Rows.relateTrichSpec).at F).post enc Tryz.prog Tryz.f3 false true false false) := by
  obtain ⟨places, hx⟩ := reads os enc
  refine returnsInHanded_of_row (C := Tryz.checked) (s := Rows.OpenSpec.upto Rows.relateTrichSpec) own started (by kernel_rfl) Tryz.func3
    (witness_row_atRef (enc := enc) (C := Tryz.checked) false (laidWorld os) #[.agg #[.int .i64 0, .int .u64 0, .string ⟨#[]⟩], .agg #[.int .i64 0, .int .u64 0, .string ⟨#[]⟩], .string ⟨#[]⟩] rfl (by kernel_rfl) (by kernel_rfl) (by kernel_rfl)
      (OpenSpec.preRow_of_cond 8 hx (by kernel_rfl) (fun k hk => by cases hk; kernel_rfl) (by kernel_rfl) (laid_met os))) ?_
  intro W base args ds gs before hval hW _ hc hsz hL _ _
  exact contract H enc W base args ds gs before hval hW hsz (table hL) (hc _ rfl)
theorem ba {a b : Bool} (ha : a = true) (hb : b = true) : (a && b) = true := by rw [ha, hb]; rfl
set_option maxHeartbeats 8000000 in
set_option maxRecDepth 100000 in
theorem closed : joinedFacts Tryz.pinned.checked.prog 3 Tryz.f3 (Rows.OpenSpec.upto Rows.relateTrichSpec).bare Rows.relateTrichUptoRow = true := by
  unfold joinedFacts
  refine ba (ba (ba (ba (ba (ba (ba (ba (ba (ba (ba (ba (ba (ba (ba (ba (ba (ba (ba (ba (ba (ba (ba (ba (ba (ba (ba (ba (ba (ba (ba ?_ ?_) ?_) ?_) ?_) ?_) ?_) ?_) ?_) ?_) ?_) ?_) ?_) ?_) ?_) ?_) ?_) ?_) ?_) ?_) ?_) ?_) ?_) ?_) ?_) ?_) ?_) ?_) ?_) ?_) ?_) ?_
  all_goals as_aux_lemma => kernel_rfl

theorem said : Rows.RelateTrichUptoSaid :=
  OpenClaim.holds_of_cond 3 Tryz.f3 rfl rfl rfl rfl rfl rfl rfl ⟨rfl, rfl, rfl, rfl, rfl⟩ rfl rfl rfl rfl rfl (by kernel_rfl) Tryz.func3 closed
    (of_decide_eq_true (by kernel_rfl)) (by unfold Func.isWrapper; first | (rw [if_pos (by decide +kernel)]; kernel_rfl) | (rw [if_neg (by decide +kernel)]; exact ⟨rfl, rfl⟩))
    (fun os started H enc _ F => by rw [OpenClaim.pre_eq_preRow]; exact lifted os started H enc F)

end Go.Proofs.YtigmhnlcmhpepaaGreatDoor.relateTrich
