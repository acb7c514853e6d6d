/-
  abacusref13's decimal.
-/
import Derived.Test.YtaadooippelcfaaDoorDRefC
import Derived.Test.YtaadooippelcfaaDoorDRefS
import Derived.Test.YtaadooippelcfaaDoorDPrint
namespace Go.Proofs.YtaadooippelcfaaDoor
open Go Go.RowKit Go.Deep Go.Shelf

theorem dstr_app {a b : ByteArray} {xs ys : List Int} (h : Str a xs) (k : Str b ys) : Str (a ++ b) (xs ++ ys) := by
  unfold Str at *
  rw [← h, ← k, ← List.map_append]
  simp
theorem conv1 (x : Int) (w : World) : (convert 62 9 (.slice (some ⟨w.heap.size, 0, none⟩) 1 1)).run Tryd.prog (w.alloc (.cells #[.int .u8 x] 5)) = .ok (.string (strOfNums [x])) (w.alloc (.cells #[.int .u8 x] 5)) := by
  refine run_convert_bytes_arg (P := Tryd.prog) _ 62 5 Tryd.underlying62 Tryd.underlying5 w.heap.size 0 1 1 [x] rfl (fun i hi => ?_) 9 Tryd.underlying9
  obtain rfl : i = 0 := by simp at hi; omega
  have h0 : (w.alloc (.cells #[.int .u8 x] 5)).heap[w.heap.size]? = some (.cells #[.int .u8 x] 5 (0, 0)) := heap_alloc_new w _
  simp only [World.cell?, h0]
  rfl

set_option maxRecDepth 100000 in
set_option maxHeartbeats 4000000 in
theorem rdecimal_any (n : Nat) (w : World) (hn : n ≤ 4096) : Calls Tryd.prog 49 #[.int .i64 (n : Int)] w fun e w' => e = .returned (.string (strOfNums (Sc.dl n))) ∧ Below w.heap.size w w' := by
  have LN := hid (dl_len4 hn)
  have DB : Hid (∀ x ∈ Sc.dl n, 0 ≤ x ∧ x < 256) := fun x hx => by have := Dr.isD_iff.1 (Dr.dl_D n x hx); omega
  have HN := hid hn
  go_enter Tryd.func49, Tryd.ntmps49
  go_wp2_with fail
  go_loopg [0, 3] n (fun m nv sv wr => ∃ (q : Nat) (S : ByteArray) (ys : List Int), q = m ∧ nv = .int .i64 (q : Int) ∧ sv = .string S ∧ Hid (q ≤ 4096 ∧ Str S ys ∧ Sc.dl n = Sc.dl q ++ ys ∧ Below w.heap.size w wr))
  case atStart => exact ⟨n, ⟨#[]⟩, [], rfl, rfl, rfl, HN.out, rfl, by rw [List.append_nil], Below.refl _ _⟩
  case round =>
    obtain ⟨q, S, ys, hq, rfl, rfl, I⟩ := hrel
    subst hq
    obtain ⟨r, hr⟩ : ∃ r, q % 10 = r := ⟨_, rfl⟩
    obtain ⟨q2, hq2⟩ : ∃ q2, q / 10 = q2 := ⟨_, rfl⟩
    have qi : ((q : Nat) : Int) % 10 = (r : Int) := by omega
    have qi2 : ((q : Nat) : Int) / 10 = (q2 : Int) := by omega
    have qt : ((q : Nat) : Int).tmod 10 = (r : Int) := by rw [Int.tmod_eq_emod_of_nonneg (by omega)]; exact qi
    have qt2 : ((q : Nat) : Int).tdiv 10 = (q2 : Int) := by rw [Int.tdiv_eq_ediv_of_nonneg (by omega)]; exact qi2
    have rb : r < 10 := by omega
    have qb : q2 ≤ 4096 := by have := I.out.1; omega
    obtain ⟨x, hx⟩ : ∃ x, 48 + (r : Int) = x := ⟨_, rfl⟩
    have w1 : IntKind.i64.wrap (48 + (r : Int)) = x := by rw [hx, IntKind.wrap_i64]; omega
    have w2 : IntKind.u8.wrap x = x := by rw [← hx, IntKind.wrap_u8]; omega
    have CV := hid (conv1 x)
    have X1 : Str (strOfNums [x]) [x] := Str.of_nums (fun z hz => by simp at hz; omega)
    have XS : Hid (Str (strOfNums [x] ++ S) (x :: ys)) := dstr_app X1 I.out.2.1
    have B1 : Hid (Below w.heap.size w (wr.alloc (.cells #[.int .u8 x] 5))) := below_on I.out.2.2.2 (alloc_b wr _)
    have ly : ys.length ≤ 4 := by have := LN.out; rw [I.out.2.2.1, List.length_append] at this; omega
    have CA := hid (fun wx => run_string_add_sum (P := Tryd.prog) wx (strOfNums [x]) S (by have a := X1.size; have b := I.out.2.1.size; rw [List.length_singleton] at a; omega))
    have wn : IntKind.i64.wrap (q2 : Int) = (q2 : Int) := by rw [IntKind.wrap_i64]; omega
    by_cases z : q2 = 0
    · have F : Hid (strOfNums [x] ++ S = strOfNums (Sc.dl n)) := by
        have e : Sc.dl n = x :: ys := by rw [I.out.2.2.1, Sc.dl_small (by omega), ← hx, ← hr, Nat.mod_eq_of_lt (by omega)]; rfl
        refine Str.inj (XS.out) ?_
        rw [← e]
        exact Str.of_nums DB.out
      subst z
      have CV' := CV.out wr
      have CA' := CA.out
      clear I X1 hx CV CA
      go_wp2_with fail
      go_ret
      exact ⟨by first | rfl | (rw [F.out]; rfl), B1.out⟩
    · have z1 : ((q2 : Int) == 0) = false := by simpa using z
      have F : Hid (q2 ≤ 4096 ∧ Str (strOfNums [x] ++ S) (x :: ys) ∧ Sc.dl n = Sc.dl q2 ++ (x :: ys) ∧ Below w.heap.size w (wr.alloc (.cells #[.int .u8 x] 5))) := by
        refine ⟨qb, XS.out, ?_, B1.out⟩
        rw [I.out.2.2.1, Sc.dl_big (by omega), hq2, hr, hx, List.append_assoc]
        rfl
      have CV' := CV.out wr
      have CA' := CA.out
      clear I X1 hx CV CA
      go_wp2_with fail
      go_roundg q2
      case measure => omega
      case rel => exact ⟨q2, _, _, rfl, by go_num, rfl, F.out⟩
end Go.Proofs.YtaadooippelcfaaDoor
