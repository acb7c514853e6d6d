/-
  Texts put together: NFrom, NDv, NRead, KTrueN, KTrue, VRIsDec, KRTry, OpenDec, OpenOps9.
-/
import Derived.Test.YthgjflfeilbbbaaGreatDoorRH
import Derived.OwnWalk
import Derived.Test.YthgjflfeilbbbaaGreatDoorRG
import Derived.Deep.LoopGhost
import Derived.SizedLaws
import Derived.ProofKit
namespace Go.Proofs.YthgjflfeilbbbaaGreatDoor
open Go.RowKit Go.Deep

/-- What FromBase tells. -/
inductive FromIs (xs : List Int) (B : Int) (w0 w' : World) : Option Addr → List Int → Int → Int → Prop
  | base : (B < 2 ∨ 36 < B) → FromIs xs B w0 w' none [] 0 32
  | empty : 2 ≤ B → B ≤ 36 → xs = [] → FromIs xs B w0 w' none [] 0 30
  | digit (t : Nat) : 2 ≤ B → B ≤ 36 → t < xs.length → (∀ i, i < t → wv (xs.getD i 0) < B) → B ≤ wv (xs.getD t 0) → FromIs xs B w0 w' none [] (t : Int) 31
  | big : 2 ≤ B → B ≤ 36 → (∀ i, i < xs.length → wv (xs.getD i 0) < B) → xs ≠ [] → Nm.pw 4096 ≤ Dn.tv B 0 (xs.map wv) → FromIs xs B w0 w' none [] 0 2
  | ok (r : Option Addr) (os : List Int) : 2 ≤ B → B ≤ 36 → (∀ i, i < xs.length → wv (xs.getD i 0) < B) → xs ≠ [] → Dn.tv B 0 (xs.map wv) < Nm.pw 4096 → Ans w0.heap.size w' r os (Dn.tv B 0 (xs.map wv)) → FromIs xs B w0 w' r os 0 0

def FromTold (xs : List Int) (B : Int) (w : World) (e : Ending) (w' : World) : Prop :=
  ∃ r os at_ E, e = .returned (.tuple #[.slice r (List.length os) (List.length os), .int .i64 at_, .int .i64 E]) ∧ FromIs xs B w w' r os at_ E ∧ Below w.heap.size w w'

set_option maxRecDepth 100000 in
set_option maxHeartbeats 4000000 in
theorem fromBase_any (s : ByteArray) (xs : List Int) (B : Int) (w : World) (hs : Str s xs) (hn : xs.length ≤ 140737488355328) (hB0 : -9223372036854775808 ≤ B) (hB1 : B ≤ 9223372036854775807) :
    Calls Tryz.prog 40 #[.string s, .int .i64 B] w fun e w' => FromTold xs B w e w' := by
  by_cases h1 : B < 2 ∨ 36 < B
  · have F : Hid (FromTold xs B w (.returned (.tuple #[.slice none 0 0, .int .i64 0, .int .i64 32])) w) := ⟨none, [], _, _, rfl, .base h1, Below.refl _ _⟩
    clear hs hn
    rcases h1 with h1 | h1
    · go_enter Tryz.func40, Tryz.ntmps40
      go_wp2_with fail
      go_ret3
      exact F.out
    · go_enter Tryz.func40, Tryz.ntmps40
      go_wp2_with fail
      go_ret3
      exact F.out
  have h2 : 2 ≤ B := by omega
  have h36 : B ≤ 36 := by omega
  by_cases h3 : xs = []
  · have F : Hid (FromTold xs B w (.returned (.tuple #[.slice none 0 0, .int .i64 0, .int .i64 30])) w) := ⟨none, [], _, _, rfl, .empty h2 h36 h3, Below.refl _ _⟩
    have hs0 : s = ⟨#[]⟩ := hs.inj (by rw [h3]; rfl)
    subst hs0
    clear hs hn h1 h3
    go_enter Tryz.func40, Tryz.ntmps40
    go_wp2_with fail
    go_ret3
    exact F.out
  have e1 : s.toList ≠ [] := by
    intro c
    apply h3
    rw [ByteArray.toList_eq] at c
    rw [← hs, c]
    rfl
  have e2 : (s.toList == []) = false := by rw [beq_eq_false_iff_ne]; exact e1
  have e3 : s.toList.isEmpty = false := by rw [List.isEmpty_eq_false_iff]; exact e1
  have WR := hid (wrong_any s xs xs.length B w hs rfl hn)
  have HS := hid hs
  have HN := hid hn
  have H3 := hid h3
  clear hs hn h1 h3
  go_enter Tryz.func40, Tryz.ntmps40
  go_wp2_with fail
  refine WR.out.mono ?_
  rintro e w' ⟨⟨r, rfl, k⟩, rfl⟩
  clear WR
  cases k with
  | here t a1 a2 a3 =>
    have F : Hid (FromTold xs B w' (.returned (.tuple #[.slice none 0 0, .int .i64 (t : Int), .int .i64 31])) w') := ⟨none, [], _, _, rfl, .digit t h2 h36 a1 a2 a3, Below.refl _ _⟩
    have ht : (0 : Int) ≤ (t : Int) := by omega
    clear a1 a2 a3
    go_wp2_with fail
    go_ret3
    exact F.out
  | none a1 =>
    have NA := hid (natural_any s xs B w' HS.out HN.out h2 h36 a1)
    have HA := hid a1
    clear a1
    go_wp2_with fail
    refine NA.out.mono ?_
    rintro e w1 ⟨h | h, d1⟩
    · obtain ⟨k1, r, os, rfl, A1⟩ := h
      have F : Hid (FromTold xs B w' (.returned (.tuple #[.slice r (List.length os) (List.length os), .int .i64 0, .int .i64 0])) w1) := ⟨r, os, _, _, rfl, .ok r os h2 h36 HA.out H3.out k1 A1, d1⟩
      clear k1 A1 d1 NA
      go_wp2_with fail
      go_ret3
      exact F.out
    · obtain ⟨k1, rfl⟩ := h
      have F : Hid (FromTold xs B w' (.returned (.tuple #[.slice none 0 0, .int .i64 0, .int .i64 2])) w1) := ⟨none, [], _, _, rfl, .big h2 h36 HA.out H3.out k1, d1⟩
      clear k1 d1 NA
      go_wp2_with fail
      go_ret3
      exact F.out
end Go.Proofs.YthgjflfeilbbbaaGreatDoor

namespace Go.Proofs.YthgjflfeilbbbaaGreatDoor
open Go.RowKit Go.Deep

/-- The number of a row of decimal digits. -/
def dv (ds : List Int) : Int := Dn.tv 10 0 (ds.map (fun d => d - 48))
def Digs (ds : List Int) : Prop := ∀ d ∈ ds, 48 ≤ d ∧ d ≤ 57

theorem dv_append (xs ys : List Int) : dv (xs ++ ys) = dv xs * 10 ^ ys.length + dv ys := by
  unfold dv
  rw [List.map_append, Dn.tv_append, Dn.tv_acc, List.length_map]

theorem dv_cons (x : Int) (ys : List Int) : dv (x :: ys) = (x - 48) * 10 ^ ys.length + dv ys := by
  have := dv_append [x] ys
  simpa [dv, Dn.tv] using this

theorem dv_zeros : ∀ k, dv (List.replicate k 48) = 0
  | 0 => rfl
  | k + 1 => by
    rw [List.replicate_succ, dv_cons, dv_zeros k]
    simp

theorem dv_nines : ∀ k, dv (List.replicate k 57) = 10 ^ k - 1
  | 0 => rfl
  | k + 1 => by
    rw [List.replicate_succ, dv_cons, dv_nines k, List.length_replicate, Int.pow_succ]
    omega

theorem dv_bd {ds : List Int} (h : Digs ds) : 0 ≤ dv ds ∧ dv ds < 10 ^ ds.length := by
  have hm : ∀ d ∈ ds.map (fun d => d - 48), 0 ≤ d ∧ d < 10 := fun d hd => by
    obtain ⟨e, he, rfl⟩ := List.mem_map.1 hd
    have := h e he
    omega
  have h2 := Dn.tv_lt (show (0 : Int) < 10 by omega) _ hm
  rw [List.length_map] at h2
  exact ⟨Dn.tv_nonneg (by omega) 0 _ (Int.le_refl _) (fun d hd => (hm d hd).1), h2⟩

theorem wv_dig {x : Int} (h : 48 ≤ x ∧ x ≤ 57) : wv x = x - 48 := by rw [wv, if_pos h]

theorem digs_at {xs : List Int} (h : Digs xs) (i : Nat) (hi : i < xs.length) : 48 ≤ xs.getD i 0 ∧ xs.getD i 0 ≤ 57 := by
  have e : xs.getD i 0 = xs[i] := by simp [List.getD, hi]
  rw [e]
  exact h _ (List.getElem_mem hi)
end Go.Proofs.YthgjflfeilbbbaaGreatDoor

namespace Go.Proofs.YthgjflfeilbbbaaGreatDoor
open Go.RowKit Go.Deep

theorem wv_map {xs : List Int} (h : Digs xs) : xs.map wv = xs.map (fun d => d - 48) := List.map_congr_left (fun x hx => wv_dig (h x hx))

set_option maxRecDepth 100000 in
theorem read_any (s : ByteArray) (xs : List Int) (w : World) (hs : Str s xs) (hl : xs.length ≤ 140737488355328) (hd : Digs xs) (h0 : xs ≠ []) (hv : dv xs < Nm.pw 4096) :
    Calls Tryz.prog 15 #[.string s] w fun e w' => ∃ r os, e = .returned (.tuple #[.slice r (List.length os) (List.length os), .int .i64 0, .int .i64 0]) ∧ Ans w.heap.size w' r os (dv xs) ∧ Below w.heap.size w w' := by
  have FB : Hid (Calls Tryz.prog 40 #[.string s, .int .i64 10] w fun e w' => ∃ r os, e = .returned (.tuple #[.slice r (List.length os) (List.length os), .int .i64 0, .int .i64 0]) ∧ Ans w.heap.size w' r os (dv xs) ∧ Below w.heap.size w w') := by
    refine (fromBase_any s xs 10 w hs hl (by omega) (by omega)).mono ?_
    rintro e w' ⟨r, os, at_, E, rfl, h, d⟩
    have ev : Dn.tv 10 0 (xs.map wv) = dv xs := by rw [wv_map hd]; rfl
    cases h with
    | base h => omega
    | empty _ _ h => exact absurd h h0
    | digit t _ _ h1 _ h3 =>
      have := digs_at hd t h1
      rw [wv_dig this] at h3
      omega
    | big _ _ _ _ h =>
      rw [ev] at h
      exact absurd hv (Int.not_lt.2 h)
    | ok r os _ _ _ _ _ h =>
      rw [ev] at h
      exact ⟨r, os, rfl, h, d⟩
  clear hs hl hd h0 hv
  go_enter Tryz.func15, Tryz.ntmps15
  go_wp2_with fail
  refine FB.out.mono ?_
  rintro e w1 ⟨r, os, rfl, A1, d1⟩
  have F := hid (And.intro A1 d1)
  clear A1 d1 FB
  go_wp2_with fail
  go_ret3
  exact ⟨r, os, rfl, F.out⟩

end Go.Proofs.YthgjflfeilbbbaaGreatDoor

namespace Go.Proofs.YthgjflfeilbbbaaGreatDoor
open Go Go.RowKit Go.Deep

theorem dw_tv (l : List Int) : ∀ a : Int, Dn.tv 10 a (l.map (fun d => d - 48)) = l.foldl (fun a d => 10 * a + (d - 48)) a := by
  induction l with
  | nil => intro a; rfl
  | cons x l ih =>
    intro a
    rw [List.map_cons, Dn.tv, List.foldl_cons, ih, Int.mul_comm a 10]
theorem dw_dv (l : List Int) : dv l = dw l := by unfold dv dw; exact dw_tv l 0

theorem dw_split {xs : List Int} (k : Nat) : dw xs = dw (xs.take k) * 10 ^ (xs.length - k) + dw (xs.drop k) := by
  have h := dv_append (xs.take k) (xs.drop k)
  rw [List.take_append_drop, List.length_drop] at h
  rw [dw_dv, dw_dv, dw_dv] at h
  exact h
theorem dw_range {xs : List Int} (h : Dig9 xs) : 0 ≤ dw xs ∧ dw xs < 10 ^ xs.length := by
  have := dw_bd h xs.length (Nat.le_refl _)
  rwa [List.take_length] at this
theorem Dig9.drop {xs : List Int} (h : Dig9 xs) (k : Nat) : Dig9 (xs.drop k) := fun x hx => h x (List.mem_of_mem_drop hx)

theorem dw_pos {xs : List Int} (h : Dig9 xs) (hn : xs ≠ []) (h0 : xs.getD 0 0 ≠ 48) : 0 < dw xs := by
  cases xs with
  | nil => exact absurd rfl hn
  | cons x l =>
    have h1 := dv_cons x l
    rw [dw_dv, dw_dv] at h1
    have h2 := h x (by simp)
    have h3 : x ≠ 48 := h0
    have h4 := (dw_range (xs := l) (fun y hy => h y (by simp [hy]))).1
    have p : (0 : Int) < 10 ^ l.length := Int.pow_pos (by decide)
    have h5 : 1 * 10 ^ l.length ≤ (x - 48) * 10 ^ l.length := Int.mul_le_mul_of_nonneg_right (by omega) (by omega)
    omega

theorem stq_in {v q x : Int} (h : Ie.Stq v q x true) (hv : 0 < v) : -342 ≤ q ∧ q ≤ 308 := by
  rcases h with h | h | h
  · omega
  · exact absurd h.2.2.2 (by simp)
  · exact ⟨h.2.1, h.2.2.1⟩
theorem stq_no {v q x : Int} (h : Ie.Stq v q x false) : x = 0 := by
  rcases h with h | h | ⟨h0, h1, h2, A, B, a, b, h⟩
  · exact absurd h.2.2 (by simp)
  · exact h.2.2.1
  · rcases h with h | h
    · exact absurd h.2.2 (by simp)
    · exact h.2.1

theorem tell_no {xs : List Int} {e x : Int} (h : TellIs xs e x false) : x = 0 := by
  rcases h with ⟨_, ⟨_, _, _, h, _⟩ | ⟨_, h⟩⟩ | ⟨_, x1, s1, _, ⟨_, rfl, _⟩ | ⟨_, x2, s2, _, ⟨_, _, _, h⟩ | ⟨_, rfl, _⟩⟩⟩
  · exact absurd h (by simp)
  · exact stq_no h
  · rfl
  · exact absurd h (by simp)
  · rfl

theorem tell_must {xs : List Int} {e x : Int} (hd : Dig9 xs) (h : TellIs xs e x false) : 15 < xs.length ∨ e < -22 ∨ 22 < e := by
  rcases (show xs.length ≤ 15 ∨ 15 < xs.length by omega) with g | g
  · right
    rcases h with ⟨_, ⟨_, _, _, h, _⟩ | ⟨h, _⟩⟩ | ⟨h, _⟩
    · exact absurd h (by simp)
    · rcases h with h | h
      · exfalso
        have b := (dw_range hd).2
        have h1 := Nat.pow_le_pow_right (show 0 < 10 by decide) g
        have e1 : ((10 ^ xs.length : Nat) : Int) = 10 ^ xs.length := by simp
        have e2 : ((10 ^ 15 : Nat) : Int) = 1000000000000000 := by decide +kernel
        omega
      · exact h
    · omega
  · exact .inl g

theorem tell_zero {x : Int} {s : Bool} (h : TellIs [48] 0 x s) : x = 0 ∧ s = true := by
  have d0 : dw [48] = 0 := by decide
  rcases h with ⟨_, ⟨_, _, _, hs, h⟩ | ⟨h, _⟩⟩ | ⟨h, _⟩
  · rw [d0] at h
    refine ⟨?_, hs⟩
    have h2 : Ie.Rnd 0 1 0 false x := by simpa using h
    exact Ie.Rnd.one (a := 0) (a' := 0) (by decide) (by decide) h2 (Ie.rnd_zero 1 0 false (by decide)) (by omega) rfl
  · rw [d0] at h; omega
  · simp at h

theorem dw_head {xs : List Int} (h : Dig9 xs) (h0 : xs.getD 0 0 ≠ 48) (k : Nat) (hk : 0 < k) (hn : k ≤ xs.length) : 0 < dw (xs.take k) := by
  refine dw_pos (h.take k) ?_ ?_
  · intro c
    have := congrArg List.length c
    rw [List.length_take, List.length_nil] at this
    omega
  · cases xs with
    | nil => simp at hn; omega
    | cons x l =>
      cases k with
      | zero => omega
      | succ k => simpa using h0

theorem tell_e {xs : List Int} {e x : Int} (hd : Dig9 xs) (h0 : xs.getD 0 0 ≠ 48) (hn : xs ≠ []) (h2 : xs.length ≤ 2000) (h : TellIs xs e x true) : -3000 ≤ e ∧ e ≤ 3000 := by
  rcases h with ⟨_, ⟨_, a, b, _, _⟩ | ⟨_, h⟩⟩ | ⟨h19, x1, s1, h1, ⟨_, _, h⟩ | ⟨hs, x2, s2, _, _⟩⟩
  · omega
  · have := stq_in h (dw_pos hd hn h0)
    omega
  · exact absurd h (by simp)
  · subst hs
    have := stq_in h1 (dw_head hd h0 19 (by omega) (by omega))
    omega

theorem tens_add {e q : Int} {r : Nat} (h : q = e + r) : (10 : Int) ^ r * (10 ^ e.toNat * 10 ^ (-q).toNat) = 10 ^ q.toNat * 10 ^ (-e).toNat := by
  rw [← Int.pow_add, ← Int.pow_add, ← Int.pow_add]
  congr 1
  omega

/-- Where Try is sure, it tells the number itself, rounded. -/
theorem tell_true {xs : List Int} {e x y : Int} (hd : Dig9 xs) (h : TellIs xs e x true) (hy : Ie.Rnd (dw xs * 10 ^ e.toNat) (10 ^ (-e).toNat) 0 false y) : x = y := by
  have V0 : 0 ≤ dw xs * 10 ^ e.toNat := Int.mul_nonneg (dw_range hd).1 (Int.le_of_lt (Int.pow_pos (by decide)))
  have D0 : (0 : Int) < 10 ^ (-e).toNat := Int.pow_pos (by decide)
  rcases h with ⟨_, ⟨_, _, _, _, h⟩ | ⟨_, h⟩⟩ | ⟨h19, x1, s1, h1, ⟨_, _, h⟩ | ⟨hs, x2, s2, h2, ⟨hs2, he, hx, _⟩ | ⟨_, _, h⟩⟩⟩
  · exact Ie.Rnd.one (a := 0) (a' := 0) D0 D0 h hy (by omega) rfl
  · exact h.stp.true rfl (dw_range hd).1 V0 D0 hy rfl
  · exact absurd h (by simp)
  · subst hs hs2
    rw [he] at h2
    rw [hx]
    obtain ⟨r, hr⟩ : ∃ r : Nat, xs.length = r + 19 := ⟨xs.length - 19, by omega⟩
    have hq : e + xs.length - 19 = e + r := by omega
    rw [hq] at h1 h2
    have sp := dw_split (xs := xs) 19
    rw [show xs.length - 19 = r by omega] at sp
    have tl := dw_range (hd.drop 19)
    rw [List.length_drop, show xs.length - 19 = r by omega] at tl
    have hv := (dw_range (hd.take 19)).1
    generalize dw (xs.take 19) = v at *
    generalize dw (xs.drop 19) = t at *
    generalize dw xs = D at *
    have ta := tens_add (e := e) (q := e + r) (r := r) rfl
    have pp : (0 : Int) < 10 ^ e.toNat * 10 ^ (-(e + r)).toNat := Int.mul_pos (Int.pow_pos (by decide)) (Int.pow_pos (by decide))
    have le1 : x1 ≤ y := by
      refine h1.stp.le rfl hv D0 hy ?_
      rw [Int.mul_assoc, ← ta, Int.mul_assoc, ← Int.mul_assoc v]
      exact Int.mul_le_mul_of_nonneg_right (by omega) (by omega)
    have ge1 : y ≤ x1 := by
      refine h2.stp.ge rfl (by omega) V0 D0 hy ?_
      rw [Int.mul_assoc (v + 1), ← ta, Int.mul_assoc D, ← Int.mul_assoc (v + 1)]
      refine Int.mul_le_mul_of_nonneg_right ?_ (by omega)
      rw [Int.add_mul, Int.one_mul]
      omega
    omega
  · exact absurd h (by simp)
end Go.Proofs.YthgjflfeilbbbaaGreatDoor

namespace Go.Proofs.YthgjflfeilbbbaaGreatDoor
open Go Go.RowKit Go.Deep

/-- The Dec in its box. -/
def DB (w wx : World) (neg : Bool) (s : ByteArray) (e : Int) : Prop := Below w.heap.size w wx ∧ Row3 wx w.heap.size (.bool neg) (.string s) (.int .i64 e)
theorem DB.new (w : World) (neg : Bool) (s : ByteArray) (e : Int) : DB w (w.alloc (.cells #[.bool neg, .string s, .int .i64 e] 40)) neg s e := ⟨alloc_b _ _, Row3.new _ _ _ _⟩
theorem DB.on {w wx wy : World} {neg : Bool} {s : ByteArray} {e : Int} (h : DB w wx neg s e) (k : Below wx.heap.size wx wy) : DB w wy neg s e := ⟨below_on h.1 k, h.2.below k h.2.lt⟩

theorem ng_sg {y : Int} (h0 : 0 ≤ y) (h1 : y ≤ 9218868437227405312) : Ie.ng y = Ie.sg true y := by unfold Ie.ng Ie.sg; rw [if_pos (by omega), if_pos rfl]

set_option maxRecDepth 100000 in
set_option maxHeartbeats 2000000 in
theorem true_law (neg : Bool) (s : ByteArray) (xs : List Int) (e : Int) (w : World) (hT : Tab w) (hX : Tens w) (hs : Str s xs) (hn : xs.length ≤ 140737488355328) :
    Calls Tryz.prog 5 #[decV neg s e] w fun r w' => r = .returned (.bool true) ∧ Below w.heap.size w w' := by
  have hsz := hs.size
  have Z := hid (DB.new w neg s e)
  have AW := hid (fun wx (b : Below w.heap.size w wx) => awake_any9 wx (hT.below b) (hX.below b))
  have TR := hid (fun wx (b : Below w.heap.size w wx) => try_any9 neg s xs e wx (hT.below b) (hX.below b) hs (by omega))
  have NM := hid (fun wx => normal_any9 neg s xs e wx hs (by omega))
  have RD := hid (fun wx (hd : Digs xs) (h0 : xs ≠ []) (hv : dv xs < Nm.pw 4096) => read_any s xs wx hs hn hd h0 hv)
  have EX := hid (fun wx (b : Below w.heap.size w wx) (p : Option Addr) (os : List Int) (ha : Arg wx p os.length os.length os) (hV : Nm.val os = dw xs) (q0 : -10000 ≤ e) (q1 : e ≤ 10000) (hK : xs.length ≤ 10000) (hv : dw xs < 10 ^ xs.length) => exactly_any9 p os.length os.length os (dw xs) e wx (hT.below b) ha hV q0 q1 xs.length hK hv)
  have NG := hid (fun (x : Int) (wx : World) (h0 : 0 ≤ x) (h1 : x < 18446744073709551616) => neg_any x wx h0 h1)
  have NI := hid (nml_iff xs e)
  have HS := hid hs
  have hni : (xs.length : Int) ≤ 281474976710656 := by omega
  unfold decV at *
  clear hs hn hT hX
  go_enter Tryz.func5, Tryz.ntmps5
  go_upto_region 1 with fail
  generalize (w.alloc (.cells #[.bool neg, .string s, .int .i64 e] 40)) = w0 at *
  have b0 := Z.out.1
  go_wp2_with fail
  with_reducible refine (AW.out _ b0).mono ?_
  rintro r w1 ⟨rfl, hB1⟩
  have Z1 := hid (Z.out.on hB1)
  clear b0 hB1 Z AW
  obtain ⟨⟨c0, c1, c2⟩, _⟩ := Z1.out.2.cells
  have b1 := Z1.out.1
  go_wp2_with fail
  with_reducible refine (TR.out _ b1).mono ?_
  rintro r w2 ⟨ht, hB2⟩
  have Z2 := hid (Z1.out.on hB2)
  clear b1 hB2 Z1 TR c0 c1 c2
  obtain ⟨⟨c0, c1, c2⟩, _⟩ := Z2.out.2.cells
  rcases ht with ⟨hnm, rfl⟩ | ⟨hnm, x, su, TI, x0, x1, rfl⟩
  · rw [decide_eq_false hnm] at NM
    clear hnm
    go_wp2_with fail
    with_reducible refine (NM.out _).mono ?_
    rintro r w3 ⟨rfl, hB3⟩
    have F := hid (Z2.out.on hB3).1
    clear c0 c1 c2 Z2 hB3 NM
    go_wp2_with fail
    go_ret
    exact ⟨rfl, F.out⟩
  have hdg : Dig9 xs := isdec_dig hnm.1
  have HD := hid hdg
  obtain ⟨hne, _, _, _, hform⟩ := NI.out.1 hnm
  rw [decide_eq_true hnm] at NM
  have HT := hid TI
  clear hnm hdg TI NI
  rcases hform with ⟨h48, he0⟩ | ⟨h48, hh, _⟩
  · have hs0 : s = ⟨#[48]⟩ := HS.out.inj (by rw [h48]; rfl)
    have ht := HT.out
    rw [h48, he0] at ht
    obtain ⟨rfl, rfl⟩ := tell_zero ht
    clear ht HT RD EX HS HD hne h48 NG
    subst hs0 he0
    go_wp2_with fail
    with_reducible refine (NM.out _).mono ?_
    rintro r w3 ⟨rfl, hB3⟩
    have Z3 := hid (Z2.out.on hB3)
    clear c0 c1 c2 Z2 hB3 NM
    obtain ⟨⟨c0, c1, c2⟩, _⟩ := Z3.out.2.cells
    have F := hid Z3.out.1
    cases neg with
    | false =>
      unfold Ie.sg
      go_wp2_with fail
      go_ret
      exact ⟨rfl, F.out⟩
    | true =>
      unfold Ie.sg
      go_wp2_with fail
      go_ret
      exact ⟨rfl, F.out⟩
  · have q : (s.toList == [48]) = false := by
      have := HS.out.eq (t := ⟨#[48]⟩) (ys := [48]) rfl
      rw [decide_eq_false h48, show (⟨#[48]⟩ : ByteArray).toList = [48] by rw [ByteArray.toList_eq]] at this
      exact this
    have q1 : s.toList ≠ [48] := by simpa using q
    cases su with
    | false =>
      obtain rfl := tell_no HT.out
      have hm := tell_must HD.out HT.out
      clear RD EX HS HD HT NG hne h48 hh
      go_wp2_with fail
      with_reducible refine (NM.out _).mono ?_
      rintro r w3 ⟨rfl, hB3⟩
      have Z3 := hid (Z2.out.on hB3)
      clear c0 c1 c2 Z2 hB3 NM
      obtain ⟨⟨c0, c1, c2⟩, _⟩ := Z3.out.2.cells
      have F := hid Z3.out.1
      by_cases m1 : 15 < xs.length
      · have m1' : 15 < (xs.length : Int) := by omega
        clear hm
        go_wp2_with fail
        go_ret
        exact ⟨rfl, F.out⟩
      · have m1' : ¬ 15 < (xs.length : Int) := by omega
        by_cases m2 : e < -22
        · clear hm
          go_wp2_with fail
          go_ret
          exact ⟨rfl, F.out⟩
        · have m3 : 22 < e := by omega
          clear hm
          go_wp2_with fail
          go_ret
          exact ⟨rfl, F.out⟩
    | true =>
      by_cases h2 : 2000 < xs.length
      · have h2' : 2000 < (xs.length : Int) := by omega
        clear RD EX HS HD HT NG hne h48 hh
        go_wp2_with fail
        with_reducible refine (NM.out _).mono ?_
        rintro r w3 ⟨rfl, hB3⟩
        have Z3 := hid (Z2.out.on hB3)
        clear c0 c1 c2 Z2 hB3 NM
        obtain ⟨⟨c0, c1, c2⟩, _⟩ := Z3.out.2.cells
        have F := hid Z3.out.1
        go_wp2_with fail
        go_ret
        exact ⟨rfl, F.out⟩
      · have h2' : (xs.length : Int) ≤ 2000 := by omega
        have eb := tell_e HD.out hh hne (by omega) HT.out
        have rg := dw_range HD.out
        have R1 := hid (fun wx => RD.out wx HD.out hne (by rw [dw_dv]; have := ten_pw (show xs.length ≤ 20000 by omega); omega))
        rw [dw_dv] at R1
        have big : Hid (dw xs < Nm.pw 4096) := by have := ten_pw (show xs.length ≤ 20000 by omega); rw [Hid]; omega
        have E1 := hid (fun wx b p os ha hV => EX.out wx b p os ha hV (by omega) (by omega) (by omega) rg.2)
        have eb0 := eb.1
        have eb1 := eb.2
        clear RD EX HS hne h48 hh rg eb h2
        go_wp2_with fail
        with_reducible refine (NM.out _).mono ?_
        rintro r w3 ⟨rfl, hB3⟩
        have Z3 := hid (Z2.out.on hB3)
        clear c0 c1 c2 Z2 hB3 NM
        obtain ⟨⟨c0, c1, c2⟩, _⟩ := Z3.out.2.cells
        go_wp2_with fail
        with_reducible refine (R1.out _).mono ?_
        rintro r w4 ⟨p4, os4, rfl, A4, hB4⟩
        have Z4 := hid (Z3.out.on hB4)
        have ag := A4.argT big.out
        have va := A4.2.2.2.1
        have b4 := Z4.out.1
        clear c0 c1 c2 Z3 hB4 R1 A4
        obtain ⟨⟨c0, c1, c2⟩, _⟩ := Z4.out.2.cells
        have E2 := hid (E1.out _ b4 _ _ ag va)
        clear ag va b4 E1 big
        go_wp2_with fail
        with_reducible refine E2.out.mono ?_
        rintro r w5 ⟨y, rfl, R, hB5⟩
        obtain rfl := tell_true HD.out HT.out R
        have Z5 := hid (Z4.out.on hB5)
        clear c0 c1 c2 Z4 hB5 E2 R HD HT
        obtain ⟨⟨c0, c1, c2⟩, _⟩ := Z5.out.2.cells
        have F := hid Z5.out.1
        cases neg with
        | false =>
          unfold Ie.sg
          clear NG
          go_wp2_with fail
          go_ret
          exact ⟨rfl, F.out⟩
        | true =>
          have N1 := hid (NG.out x w5 x0 (by omega))
          rw [ng_sg x0 x1] at N1
          clear NG
          generalize Ie.sg true x = X at *
          go_wp2_with fail
          with_reducible refine N1.out.mono ?_
          rintro r w6 ⟨rfl, rfl⟩
          go_wp2_with fail
          go_ret
          exact ⟨rfl, F.out⟩
end Go.Proofs.YthgjflfeilbbbaaGreatDoor

namespace Go.Proofs.YthgjflfeilbbbaaGreatDoor
open Go Go.RowKit Go.Deep

def LS1 (w wx : World) (v0 v1 v2 : Value) : Prop := Below w.heap.size w wx ∧ Row3 wx w.heap.size v0 v1 v2
theorem LS1.new (w : World) (v0 v1 v2 : Value) : LS1 w (w.alloc (.cells #[v0, v1, v2] 40)) v0 v1 v2 := ⟨alloc_b _ _, heap_alloc_new _ _⟩
theorem LS1.on {w wx w' : World} {v0 v1 v2 : Value} (h : LS1 w wx v0 v1 v2) (k : Below wx.heap.size wx w') : LS1 w w' v0 v1 v2 := ⟨below_on h.1 k, h.2.below k h.2.lt⟩

set_option maxRecDepth 100000 in
set_option maxHeartbeats 2000000 in
theorem normal_any (neg : Bool) (s : ByteArray) (xs : List Int) (e : Int) (w : World) (hs : Str s xs) (hn : xs.length ≤ 281474976710656) (e0 : -4611686018427387904 ≤ e) (e1 : e ≤ 4611686018427387904) :
    Calls Tryz.prog 125 #[.bool neg, .string s, .int .i64 e] w fun r w' => ∃ v, r = .returned v ∧ DecIs v (Sc.nrm neg xs e) ∧ Below w.heap.size w w' := by
  have HS := hid hs
  have HN := hid hn
  have hsz := hs.size
  have D := hid (LS1.new w (.bool false) (.string ⟨#[]⟩) (.int .i64 0))
  have hnb : (xs.length : Int) ≤ 281474976710656 := by omega
  clear hs hn
  go_enter Tryz.func125, Tryz.ntmps125
  go_wp2_with fail
  go_loop [7] (fun c => ∃ j : Nat, c = .int .i64 j ∧ Hid (j ≤ Sc.lz xs)) (fun c => match c with | .int _ j => xs.length - j.toNat | _ => 0)
  case atStart => exact ⟨0, rfl, Nat.zero_le _⟩
  case round =>
    obtain ⟨j, rfl, I⟩ := hrel
    have hjl : j ≤ xs.length := by have := I.out; have := Sc.lz_le xs; omega
    have hjb : (j : Int) ≤ 281474976710656 := by have := HN.out; omega
    have hx := HS.out.pk j
    by_cases hj : j < Sc.lz xs
    · have hji : (j : Int) < (xs.length : Int) := by have := Sc.lz_le xs; omega
      have h48 := Sc.lz_at hj
      rw [h48] at hx
      clear h48
      replace hj := hid hj
      go_wp2_with fail
      go_round
      case rel => exact ⟨j + 1, by go_num, by have := hj.out; show _ ≤ _; omega⟩
      case measure => simp; omega
    · have hje : j = Sc.lz xs := by have := I.out; omega
      have hne := Sc.lz_end xs
      rw [← hje] at hne
      by_cases hl : j = xs.length
      · have F : Hid (Sc.nrm neg xs e = ⟨neg, [48], 0⟩) := Sc.nrm_zero (by omega)
        have hji : ¬ (j : Int) < (xs.length : Int) := by omega
        have hjq : ((j : Int) == (xs.length : Int)) = true := by simp; omega
        have hjq2 : (j : Int) = (xs.length : Int) := by omega
        clear hje hne I hx hj
        go_wp2_with fail
        (try simp only [Exit.inBlock, Exit.then])
        refine bodyPost_ret (results_cell_row rfl _ _ w.heap.size 40 _ (0, 0) _ rfl (LS1.new w _ _ _).2 Tryz.underlying40 rfl (by kernel_rfl)) rfl ?_
        exact dec_ret (by rw [F.out]; exact ⟨_, rfl, str_zero⟩) (LS1.new w _ _ _).1
      · have hji : (j : Int) < (xs.length : Int) := by omega
        have hjq : ((j : Int) == (xs.length : Int)) = false := by rw [beq_eq_false_iff_ne]; omega
        have hd2 : (Sc.pk xs j == 48) = false := by rw [beq_eq_false_iff_ne]; exact hne
        have LT := hid (Sc.lz_tz (ds := xs) (by omega))
        have NP : Hid (Sc.nrm neg xs e = ⟨neg, (xs.drop j).take (xs.length - Sc.tz xs - j), e + Sc.tz xs⟩) := by
          show _ = _
          rw [Sc.nrm_pos (by omega), ← hje]
        have HJ := hid hje
        have hjne : ¬ (j : Int) = (xs.length : Int) := by omega
        clear hje hne I hj
        generalize Sc.pk xs j = xj at *
        go_wp2_with fail
        go_loop [8] (fun c => ∃ k : Nat, c = .int .i64 k ∧ Hid (k ≤ xs.length ∧ xs.length - Sc.tz xs ≤ k)) (fun c => match c with | .int _ j => j.toNat | _ => 0)
        case atStart => exact ⟨xs.length, rfl, Nat.le_refl _, by omega⟩
        case round =>
          obtain ⟨k, rfl, I⟩ := hrel
          have hk0 : 0 < k := by have := I.out.2; have := LT.out; omega
          obtain ⟨k', hk'⟩ : ∃ k', k = k' + 1 := ⟨k - 1, by omega⟩
          have hkk : (k : Int) - 1 = (k' : Int) := by omega
          have hkl : (k' : Int) < (xs.length : Int) := by have := I.out.1; omega
          have hkb : (k : Int) ≤ 281474976710656 := by have := I.out.1; have := HN.out; omega
          have hk2 : Hid (k = k' + 1) := hk'
          have hx2 := HS.out.pk k'
          by_cases ht : xs.length - Sc.tz xs < k
          · have h48 := Sc.tz_at (ds := xs) (i := k') (by omega) (by have := I.out.1; omega)
            rw [h48] at hx2
            have I2 : Hid (k' ≤ xs.length ∧ xs.length - Sc.tz xs ≤ k') := ⟨by have := I.out.1; omega, by omega⟩
            clear h48 hk' ht I hk0
            go_wp2_with fail
            go_round
            case rel => exact ⟨k', rfl, I2.out⟩
            case measure => have := hk2.out; simp; omega
          · have hke : k = xs.length - Sc.tz xs := by have := I.out.2; omega
            have hne := Sc.tz_end (ds := xs) (by have := LT.out; omega)
            rw [show xs.length - Sc.tz xs - 1 = k' by omega] at hne
            have hd3 : (Sc.pk xs k' == 48) = false := by rw [beq_eq_false_iff_ne]; exact hne
            have q1 : (j : Int) ≤ (k : Int) := by have := LT.out; have := HJ.out; omega
            have q2 : (k : Int) ≤ (xs.length : Int) := by omega
            have F : Hid (DecIs (.agg #[.bool neg, .string (s.extract j k), .int .i64 (e + (xs.length : Int) - (k : Int))]) (Sc.nrm neg xs e)) := by
              show DecIs _ _
              rw [NP.out]
              have h1 := HS.out.extract j k
              rw [hke] at h1 ⊢
              have tl := Sc.tz_le xs
              refine ⟨s.extract j (xs.length - Sc.tz xs), ?_, h1⟩
              show _ = decV _ _ _
              unfold decV
              congr 2
              have : e + (xs.length : Int) - ((xs.length - Sc.tz xs : Nat) : Int) = e + (Sc.tz xs : Int) := by omega
              rw [this]
            clear hke hne I ht hk' NP hk0
            generalize Sc.pk xs k' = xk at *
            go_wp2_with fail
            (try simp only [Exit.inBlock, Exit.then])
            refine bodyPost_ret (results_cell_row rfl _ _ w.heap.size 40 _ (0, 0) _ rfl (LS1.new w _ _ _).2 Tryz.underlying40 rfl (by kernel_rfl)) rfl ?_
            exact dec_ret F.out (LS1.new w _ _ _).1

set_option maxRecDepth 100000 in
set_option maxHeartbeats 2000000 in
theorem risdec_any (neg : Bool) (s : ByteArray) (xs : List Int) (e : Int) (w : World) (hs : Str s xs) (hn : xs.length ≤ 281474976710656) :
    Calls Tryz.prog 103 #[decV neg s e] w fun r w' => r = .returned (.bool (decide (Sc.IsDec xs e))) ∧ Below w.heap.size w w' := by
  have Z := hid (LS1.new w (.bool neg) (.string s) (.int .i64 e))
  have ZF : Hid (¬ Sc.IsDec xs e → ∀ w', Below w.heap.size w w' → Ending.returned (.bool false) = .returned (.bool (decide (Sc.IsDec xs e))) ∧ Below w.heap.size w w') := fun z w' b => ⟨by rw [decide_eq_false z], b⟩
  have hsz := hs.size
  by_cases h1 : xs = []
  · have Z2 := hid (ZF.out fun c => c.1 h1)
    have hs0 : s = ⟨#[]⟩ := hs.inj (by rw [h1]; rfl)
    subst hs0
    clear hs h1 ZF hn hsz
    unfold decV
    go_enter Tryz.func103, Tryz.ntmps103
    go_wp2_with fail
    go_ret
    exact Z2.out _ Z.out.1
  · have hpos : 0 < xs.length := by
      rcases Nat.eq_zero_or_pos xs.length with c | c
      · exact absurd (List.length_eq_zero_iff.1 c) h1
      · exact c
    have hp1 : ((xs.length : Int) == 0) = false := by rw [beq_eq_false_iff_ne]; omega
    by_cases h2 : -1152921504606846976 ≤ e ∧ e ≤ 1152921504606846976
    · obtain ⟨e0, e1⟩ := h2
      have T := hid (fun wx => normal_any neg s xs e wx hs hn (by omega) (by omega))
      have ID : Hid ((∀ i, i < xs.length → Sc.dg (Sc.pk xs i) = true) → (Sc.IsDec xs e ↔ (Sc.nrm neg xs e).e ≤ 1152921504606846976)) := isdec_n h1 e0 e1
      have IN : Hid (∀ j, j < xs.length → Sc.dg (Sc.pk xs j) = false → ¬ Sc.IsDec xs e) := fun j hj hd c => by
        have := c.2.2.2.1 (Sc.pk xs j) (by simp [Sc.pk, List.getD, hj])
        rw [hd] at this; exact absurd this (by simp)
      have HS := hid hs
      have HN := hid hn
      clear hs hn h1
      unfold decV
      go_enter Tryz.func103, Tryz.ntmps103
      go_wp2_with fail
      go_loop [3] (fun c => ∃ j : Nat, c = .int .i64 j ∧ Hid (j ≤ xs.length ∧ ∀ i, i < j → Sc.dg (Sc.pk xs i) = true)) (fun c => match c with | .int _ j => xs.length - j.toNat | _ => 0)
      case atStart => exact ⟨0, rfl, Nat.zero_le _, fun i hi => by omega⟩
      case round =>
        obtain ⟨j, rfl, I⟩ := hrel
        have hjb : (j : Int) ≤ 281474976710656 := by have := I.out.1; have := HN.out; omega
        by_cases hj : j < xs.length
        · have hji : (j : Int) < (xs.length : Int) := by omega
          have hx := HS.out.pk j
          cases hd : Sc.dg (Sc.pk xs j) with
          | true =>
            have hd2 := Sc.dg_iff.1 hd
            have I2 : Hid (j + 1 ≤ xs.length ∧ ∀ i, i < j + 1 → Sc.dg (Sc.pk xs i) = true) := ⟨by omega, fun i hi => by
              by_cases c : i = j
              · subst c; exact hd
              · exact I.out.2 i (by omega)⟩
            clear hd I
            generalize Sc.pk xs j = x at *
            go_wp2_with fail
            go_round
            case rel => exact ⟨j + 1, by go_num, I2.out⟩
            case measure => simp; omega
          | false =>
            have hd2 := Sc.dg_not.1 hd
            have Z2 := hid (ZF.out (IN.out j hj hd))
            have hd3 : Sc.pk xs j < 48 ∨ (48 ≤ Sc.pk xs j ∧ 57 < Sc.pk xs j) := by omega
            clear hd hd2
            generalize Sc.pk xs j = x at *
            rcases hd3 with hd3 | ⟨hd3, hd4⟩
            all_goals (go_wp2_with fail; go_ret; exact Z2.out _ Z.out.1)
        · have hji : ¬ (j : Int) < (xs.length : Int) := by omega
          have ID2 := hid (ID.out fun i hi => I.out.2 i (by omega))
          clear I ID IN
          go_wp2_with fail
          refine (T.out _).mono ?_
          rintro r w1 ⟨v, rfl, ⟨t, hv, ht⟩, hB⟩
          unfold decV at hv
          subst hv
          have B2 := hid (below_on (below_on Z.out.1 hB) (alloc_b w1 (.cells #[.bool (Sc.nrm neg xs e).neg, .string t, .int .i64 (Sc.nrm neg xs e).e] 40)))
          clear hB ht T
          have FF : Hid (∀ b : Bool, b = decide ((Sc.nrm neg xs e).e ≤ 1152921504606846976) → ∀ w', Below w.heap.size w w' → Ending.returned (.bool b) = .returned (.bool (decide (Sc.IsDec xs e))) ∧ Below w.heap.size w w') := fun b hb w' bb => ⟨by rw [hb, show decide ((Sc.nrm neg xs e).e ≤ 1152921504606846976) = decide (Sc.IsDec xs e) from decide_eq_decide.2 ID2.out.symm], bb⟩
          clear ID2
          generalize Sc.nrm neg xs e = N at *
          go_wp2_with fail
          go_ret
          exact FF.out _ rfl _ B2.out
    · have Z2 := hid (ZF.out fun c => h2 ⟨c.2.1, c.2.2.1⟩)
      rcases (show e < -1152921504606846976 ∨ (-1152921504606846976 ≤ e ∧ 1152921504606846976 < e) by omega) with he | ⟨he0, he⟩
      all_goals
        clear hs hn h1 ZF h2
        unfold decV
        go_enter Tryz.func103, Tryz.ntmps103
        go_wp2_with fail
        go_ret
        exact Z2.out _ Z.out.1

end Go.Proofs.YthgjflfeilbbbaaGreatDoor

namespace Go.Proofs.YthgjflfeilbbbaaGreatDoor
open Go Go.RowKit Go.Deep

set_option maxRecDepth 100000 in
set_option maxHeartbeats 2000000 in
theorem rnormal_any9 (neg : Bool) (s : ByteArray) (xs : List Int) (e : Int) (w : World) (hs : Str s xs) (hn : xs.length ≤ 281474976710656) :
    Calls Tryz.prog 71 #[decV neg s e] w fun r w' => r = .returned (.bool (decide (Nml xs e))) ∧ Below w.heap.size w w' := by
  have Z := hid (DB.new w neg s e)
  have ID := hid (fun wx => risdec_any neg s xs e wx hs hn)
  have ZF : Hid (¬ Nml xs e → ∀ w', Below w.heap.size w w' → Ending.returned (.bool false) = .returned (.bool (decide (Nml xs e))) ∧ Below w.heap.size w w') := fun z w' b => ⟨by rw [decide_eq_false z], b⟩
  have ZT : Hid (Nml xs e → ∀ w', Below w.heap.size w w' → Ending.returned (.bool true) = .returned (.bool (decide (Nml xs e))) ∧ Below w.heap.size w w') := fun z w' b => ⟨by rw [decide_eq_true z], b⟩
  have hsz := hs.size
  have NI := hid (nml_iff xs e)
  have HS := hid hs
  have AT := hid (fun (j : Nat) => hs.at j)
  have BT := hid (fun (j : Nat) => hs.atb j)
  have hni : (xs.length : Int) ≤ 281474976710656 := by omega
  clear hs hn
  unfold decV at *
  by_cases hd : Sc.IsDec xs e
  · rw [decide_eq_true hd] at ID
    have hne : xs ≠ [] := hd.1
    have h1 := hd.2.1
    have h2 := hd.2.2.1
    have DG := hid (fun (i : Nat) (hi : i < xs.length) => (isdec_dig hd).at hi)
    have hp : 0 < xs.length := by
      rcases Nat.eq_zero_or_pos xs.length with c | c
      · exact absurd (List.length_eq_zero_iff.1 c) hne
      · exact c
    clear hd
    go_enter Tryz.func71, Tryz.ntmps71
    go_upto_region 1 with fail
    generalize (w.alloc (.cells #[.bool neg, .string s, .int .i64 e] 40)) = w0 at *
    obtain ⟨⟨c0, c1, c2⟩, _⟩ := Z.out.2.cells
    go_wp2_with fail
    with_reducible refine (ID.out _).mono ?_
    rintro r w1 ⟨rfl, hB1⟩
    have Z1 := hid (Z.out.on hB1)
    clear c0 c1 c2 Z hB1 ID
    obtain ⟨⟨c0, c1, c2⟩, _⟩ := Z1.out.2.cells
    have B := hid Z1.out.1
    by_cases h3 : xs = [48]
    · have hs0 : s = ⟨#[48]⟩ := HS.out.inj (by rw [h3]; rfl)
      by_cases h4 : e = 0
      · have Z2 := hid (ZT.out (NI.out.2 ⟨hne, by omega, by omega, DG.out, .inl ⟨h3, h4⟩⟩))
        subst hs0 h4
        clear h3
        go_wp2_with fail
        go_ret
        exact Z2.out _ B.out
      · have Z2 := hid (ZF.out (fun c => by
          rcases (NI.out.1 c).2.2.2.2 with g | g
          · exact h4 g.2
          · exact g.1 h3))
        have he : (e == 0) = false := by rw [beq_eq_false_iff_ne]; exact h4
        subst hs0
        clear h3
        go_wp2_with fail
        go_ret
        exact Z2.out _ B.out
    · have q : (s.toList == [48]) = false := by
        have := HS.out.eq (t := ⟨#[48]⟩) (ys := [48]) rfl
        rw [decide_eq_false h3, show (⟨#[48]⟩ : ByteArray).toList = [48] by rw [ByteArray.toList_eq]] at this
        exact this
      have q1 : s.toList ≠ [48] := by simpa using q
      obtain ⟨l, hl⟩ : ∃ l, xs.length = l + 1 := ⟨xs.length - 1, by omega⟩
      have x0 := AT.out 0
      have x1 := AT.out l
      have b0 := BT.out 0
      have b1 := BT.out l
      have ls : l < s.size := by omega
      have zs : 0 < s.size := by omega
      have el : (xs.length : Int) - 1 = (l : Int) := by omega
      have e1 : xs.length - 1 = l := by omega
      have l0 : (0 : Int) ≤ l := by omega
      by_cases g0 : xs.getD 0 0 = 48
      · have Z2 := hid (ZF.out (fun c => by
          rcases (NI.out.1 c).2.2.2.2 with g | g
          · exact h3 g.1
          · exact g.2.1 g0))
        rw [g0] at x0
        clear b0 b1 x1
        go_wp2_with fail
        go_ret
        exact Z2.out _ B.out
      · have y0 : (xs.getD 0 0 == 48) = false := by rw [beq_eq_false_iff_ne]; exact g0
        have y0' : (xs.getD 0 0 != 48) = true := by rw [bne, y0]; rfl
        by_cases g1 : xs.getD l 0 = 48
        · have Z2 := hid (ZF.out (fun c => by
            rcases (NI.out.1 c).2.2.2.2 with g | g
            · exact h3 g.1
            · have := g.2.2; rw [e1] at this; exact this g1))
          rw [g1] at x1
          clear b1
          generalize xs.getD 0 0 = y at *
          go_wp2_with fail
          go_ret
          exact Z2.out _ B.out
        · have y1 : (xs.getD l 0 == 48) = false := by rw [beq_eq_false_iff_ne]; exact g1
          have y1' : (xs.getD l 0 != 48) = true := by rw [bne, y1]; rfl
          have Z2 := hid (ZT.out (NI.out.2 ⟨hne, by omega, by omega, DG.out, .inr ⟨h3, g0, by rw [e1]; exact g1⟩⟩))
          generalize xs.getD 0 0 = y at *
          generalize xs.getD l 0 = z at *
          go_wp2_with fail
          go_ret
          exact Z2.out _ B.out
  · rw [decide_eq_false hd] at ID
    have Z2 := hid (ZF.out (fun c => hd c.1))
    clear hd
    go_enter Tryz.func71, Tryz.ntmps71
    go_upto_region 1 with fail
    generalize (w.alloc (.cells #[.bool neg, .string s, .int .i64 e] 40)) = w0 at *
    obtain ⟨⟨c0, c1, c2⟩, _⟩ := Z.out.2.cells
    go_wp2_with fail
    with_reducible refine (ID.out _).mono ?_
    rintro r w1 ⟨rfl, hB1⟩
    have B := hid (Z.out.on hB1).1
    clear c0 c1 c2 Z hB1 ID
    go_wp2_with fail
    go_ret
    exact Z2.out _ B.out

theorem tell_none : TellIs [48] 0 0 true := by
  refine .inl ⟨by simp, .inl ⟨by decide, by omega, by omega, rfl, ?_⟩⟩
  have d0 : dw [48] = 0 := by decide
  rw [d0, Int.zero_mul]
  exact Ie.rnd_zero _ 0 false (Int.pow_pos (by decide))

set_option maxRecDepth 100000 in
set_option maxHeartbeats 4000000 in
theorem rtry_any9 (neg : Bool) (s : ByteArray) (xs : List Int) (e : Int) (w : World) (hs : Str s xs) (hn : xs.length ≤ 281474976710655) :
    Calls Tryz.prog 47 #[decV neg s e] w fun r w' => TryTold neg xs e w r w' := by
  have Z := hid (DB.new w neg s e)
  have NM := hid (fun wx => rnormal_any9 neg s xs e wx hs (by omega))
  have hsz := hs.size
  have hni : (xs.length : Int) ≤ 281474976710655 := by omega
  unfold decV at NM ⊢
  by_cases hnm0 : ¬ Nml xs e
  · have hnm := hnm0
    have F : Hid (∀ w', Below w.heap.size w w' → TryTold neg xs e w (.returned (.tuple #[.int .u64 0, .bool false])) w') := fun w' b => ⟨.inl ⟨hnm, rfl⟩, b⟩
    rw [decide_eq_false hnm] at NM
    clear hnm hnm0 hs hn
    go_enter Tryz.func47, Tryz.ntmps47
    go_upto_region 1 with fail
    generalize (w.alloc (.cells #[.bool neg, .string s, .int .i64 e] 40)) = w0 at *
    obtain ⟨⟨c0, c1, c2⟩, _⟩ := Z.out.2.cells
    go_wp2_with fail
    with_reducible refine (NM.out _).mono ?_
    rintro r w1 ⟨rfl, hB1⟩
    have B := hid (Z.out.on hB1).1
    clear c0 c1 c2 Z hB1 NM
    go_wp2_with fail
    go_ret2
    exact F.out _ B.out
  have hnm : Nml xs e := Decidable.not_not.1 hnm0
  clear hnm0
  have G1 : Hid (∀ x w', TellIs xs e x true → Below w.heap.size w w' → TryTold neg xs e w (.returned (.tuple #[.int .u64 (Ie.sg neg x), .bool true])) w') := fun x w' k b => ⟨.inr ⟨hnm, x, true, k, k.bd.1, k.bd.2, rfl⟩, b⟩
  have G2 : Hid (∀ x w', TellIs xs e x false → Below w.heap.size w w' → TryTold neg xs e w (.returned (.tuple #[.int .u64 0, .bool false])) w') := fun x w' k b => by
    have hx := tell_no k
    subst hx
    exact ⟨.inr ⟨hnm, 0, false, k, by omega, by omega, rfl⟩, b⟩
  rw [decide_eq_true hnm] at NM
  have hd : Dig9 xs := isdec_dig hnm.1
  have HD := hid hd
  have FM := hid ((nml_iff xs e).1 hnm)
  have e0 := hnm.1.2.1
  have e1 := hnm.1.2.2.1
  obtain ⟨K, hK⟩ : ∃ K, K = min xs.length 19 := ⟨_, rfl⟩
  have ST : Hid (∀ j, j < K → (∀ ht : j < s.size, ((s[j]'ht).toNat : Int) = xs.getD j 0) ∧ (48 ≤ xs.getD j 0 ∧ xs.getD j 0 ≤ 57) ∧ dw (xs.take (j + 1)) = 10 * dw (xs.take j) + (xs.getD j 0 - 48) ∧ 0 ≤ dw (xs.take j) ∧ dw (xs.take j) < 1000000000000000000) := fun j hj => ⟨hs.at j, hd.at (by omega), dw_take (by omega), (dw_bd hd j (by omega)).1, by
    have := (dw_bd hd j (by omega)).2
    have h1 := ten_le (show j ≤ 18 by omega)
    rw [ten18e] at h1
    omega⟩
  have VB : Hid (Bd (dw (xs.take K)) ∧ Bd (dw (xs.take K) + 1)) := by
    have b := dw_bd hd K (by omega)
    have h1 := ten_le (show K ≤ 19 by omega)
    rw [ten19e] at h1
    exact ⟨⟨b.1, by omega⟩, by omega, by omega⟩
  have HS := hid hs
  have hz0 : dw (xs.take 0) = 0 := by simp [dw]
  have K19 : (K : Int) ≤ 19 := by omega
  clear hnm hs hn hd
  go_enter Tryz.func47, Tryz.ntmps47
  go_upto_region 1 with fail
  generalize (w.alloc (.cells #[.bool neg, .string s, .int .i64 e] 40)) = w0 at *
  obtain ⟨⟨c0, c1, c2⟩, _⟩ := Z.out.2.cells
  go_wp2_with fail
  with_reducible refine (NM.out _).mono ?_
  rintro r w1 ⟨rfl, hB1⟩
  have Z1 := hid (Z.out.on hB1)
  clear c0 c1 c2 Z hB1 NM
  obtain ⟨⟨c0, c1, c2⟩, _⟩ := Z1.out.2.cells
  go_wp2_with fail
  go_loop [7, 8] (fun a i => ∃ (j : Nat) (x : Int), a = .int .u64 x ∧ i = .int .i64 j ∧ Hid (j ≤ K ∧ x = dw (xs.take j))) (fun _ i => K - (intOf i).toNat)
  case atStart => exact ⟨0, 0, rfl, rfl, Nat.zero_le _, hz0.symm⟩
  case round =>
    obtain ⟨j, x, rfl, rfl, I⟩ := hrel
    have hjb : (j : Int) ≤ 19 := by have := I.out.1; omega
    by_cases hj : j < K
    · have hji : (j : Int) < (xs.length : Int) := by omega
      have hj9 : (j : Int) < 19 := by omega
      obtain ⟨hx, hd, hst, b0, b1⟩ := ST.out j hj
      have hjs : j < s.size := by omega
      have hxx := I.out.2
      rw [← hxx] at hst b0 b1
      have I2 : Hid (j + 1 ≤ K ∧ 10 * x + (xs.getD j 0 - 48) = dw (xs.take (j + 1))) := ⟨by omega, hst.symm⟩
      clear I hxx hst
      generalize xs.getD j 0 = y at *
      go_wp2_with fail
      go_round
      case rel => exact ⟨j + 1, _, rfl, by go_num, I2.out⟩
      case measure => simp [intOf]; omega
    · have hjK : j = K := by have := I.out.1; omega
      have hx := I.out.2
      rw [hjK] at hx
      have hjc : ¬ (j : Int) < (xs.length : Int) ∨ ((j : Int) < (xs.length : Int) ∧ ¬ (j : Int) < 19) := by omega
      clear I ST
      by_cases h48 : xs = [48]
      · have he0 : e = 0 := by
          rcases FM.out.2.2.2.2 with g | g
          · exact g.2
          · exact absurd h48 g.1
        have hv0 : x = 0 := by rw [hx, h48, show K = 1 by rw [hK, h48]; rfl]; decide
        have TI : Hid (TellIs xs e 0 true) := by rw [Hid, h48, he0]; exact tell_none
        have hl1 : ¬ (j : Int) < (xs.length : Int) := by
          have hl : xs.length = 1 := by rw [h48]; rfl
          omega
        have B1 := hid Z1.out.1
        subst hv0
        clear hx hjc h48 VB HD FM HS he0
        cases neg with
        | false =>
          have F : Hid (TryTold false xs e w (.returned (.tuple #[.int .u64 (0), .bool true])) w1) := G1.out 0 w1 TI.out B1.out
          clear G1 G2 TI
          go_wp2_with fail
          go_ret2
          exact F.out
        | true =>
          have F : Hid (TryTold true xs e w (.returned (.tuple #[.int .u64 (0 + 9223372036854775808), .bool true])) w1) := G1.out 0 w1 TI.out B1.out
          clear G1 G2 TI
          go_wp2_with fail
          go_ret2
          exact F.out
      · have hh : xs.getD 0 0 ≠ 48 ∧ xs ≠ [] := by
          refine ⟨?_, FM.out.1⟩
          rcases FM.out.2.2.2.2 with g | g
          · exact absurd g.1 h48
          · exact g.2.1
        have hp : 0 < xs.length := by
          rcases Nat.eq_zero_or_pos xs.length with c | c
          · exact absurd (List.length_eq_zero_iff.1 c) hh.2
          · exact c
        have vp : 0 < dw (xs.take K) := dw_head HD.out hh.1 K (by omega) (by omega)
        rw [← hx] at vp VB
        have vb : (x == 0) = false := by rw [beq_eq_false_iff_ne]; omega
        have v1 := VB.out.1.2
        have v2 := VB.out.2.2
        clear hh FM h48 HS
        by_cases h19 : xs.length ≤ 19
        · have h19i : (xs.length : Int) ≤ 19 := by omega
          have hl1 : ¬ (j : Int) < (xs.length : Int) := by omega
          have hxw : Hid (x = dw xs) := by rw [Hid, hx, show K = xs.length by omega, List.take_length]
          have SM := hid (fun wx => rsmall_any9 x e wx VB.out.1)
          have SP := hid (fun wx => rstep_any9 x e wx VB.out.1)
          have TS : Hid (∀ y, Ie.Rnd (x * 10 ^ e.toNat) (10 ^ (-e).toNat) 0 false y → x ≤ 9007199254740992 → -22 ≤ e → e ≤ 22 → TellIs xs e y true) := fun y r a b c => .inl ⟨h19, .inl ⟨by rw [← hxw.out]; exact a, b, c, rfl, by rw [← hxw.out]; exact r⟩⟩
          have TP : Hid (∀ y sr, Ie.Stq x e y sr → (9007199254740992 < x ∨ e < -22 ∨ 22 < e) → TellIs xs e y sr) := fun y sr r a => .inl ⟨h19, .inr ⟨by rw [← hxw.out]; exact a, by rw [← hxw.out]; exact r⟩⟩
          clear hx hjc VB HD h19 hxw hp
          go_wp2_with fail
          with_reducible refine (SM.out _).mono ?_
          rintro r w2 ⟨⟨a1, a2, a3, y, rfl, R⟩ | ⟨a1, rfl⟩, hB2⟩
          · have TI := hid (TS.out y R a1 a2 a3)
            have bd := TI.out.bd
            have Z2 := hid (Z1.out.on hB2)
            have B2 := hid Z2.out.1
            clear c0 c1 c2 Z1 hB2 a1 a2 a3 R TS TP SM SP
            obtain ⟨⟨c0, c1, c2⟩, _⟩ := Z2.out.2.cells
            cases neg with
            | false =>
              have F : Hid (TryTold false xs e w (.returned (.tuple #[.int .u64 (y), .bool true])) w2) := G1.out y w2 TI.out B2.out
              clear G1 G2 TI
              go_wp2_with fail
              go_ret2
              exact F.out
            | true =>
              have F : Hid (TryTold true xs e w (.returned (.tuple #[.int .u64 (y + 9223372036854775808), .bool true])) w2) := G1.out y w2 TI.out B2.out
              clear G1 G2 TI
              go_wp2_with fail
              go_ret2
              exact F.out
          · have A := hid a1
            have Z2 := hid (Z1.out.on hB2)
            clear c0 c1 c2 Z1 hB2 a1 TS SM
            obtain ⟨⟨c0, c1, c2⟩, _⟩ := Z2.out.2.cells
            go_wp2_with fail
            with_reducible refine (SP.out _).mono ?_
            rintro r w3 ⟨y, sr, rfl, R, hB3⟩
            have TI := hid (TP.out y sr R A.out)
            have bd := TI.out.bd
            have Z3 := hid (Z2.out.on hB3)
            have B3 := hid Z3.out.1
            clear c0 c1 c2 Z2 hB3 R TP SP A
            obtain ⟨⟨c0, c1, c2⟩, _⟩ := Z3.out.2.cells
            cases sr with
            | false =>
              have F := hid (G2.out y w3 TI.out B3.out)
              clear G1 G2 TI
              go_wp2_with fail
              go_ret2
              exact F.out
            | true =>
              cases neg with
              | false =>
                have F : Hid (TryTold false xs e w (.returned (.tuple #[.int .u64 (y), .bool true])) w3) := G1.out y w3 TI.out B3.out
                clear G1 G2 TI
                go_wp2_with fail
                go_ret2
                exact F.out
              | true =>
                have F : Hid (TryTold true xs e w (.returned (.tuple #[.int .u64 (y + 9223372036854775808), .bool true])) w3) := G1.out y w3 TI.out B3.out
                clear G1 G2 TI
                go_wp2_with fail
                go_ret2
                exact F.out
        · have h19i : ¬ (xs.length : Int) ≤ 19 := by omega
          have hl1 : (j : Int) < (xs.length : Int) := by omega
          have hl2 : ¬ (j : Int) < 19 := by omega
          have hx19 : x = dw (xs.take 19) := by rw [hx, show K = 19 by omega]
          obtain ⟨q, hq⟩ : ∃ q, e + (xs.length : Int) - 19 = q := ⟨_, rfl⟩
          have S1 := hid (fun wx => rstep_any9 x q wx VB.out.1)
          have S2 := hid (fun wx => rstep_any9 (x + 1) q wx VB.out.2)
          have T0 : Hid (∀ y, Ie.Stq x q y false → TellIs xs e 0 false) := fun y r => .inr ⟨by omega, y, false, by rw [hq, ← hx19]; exact r, .inl ⟨rfl, rfl, rfl⟩⟩
          have T1 : Hid (∀ y, Ie.Stq x q y true → Ie.Stq (x + 1) q y true → TellIs xs e y true) := fun y r r2 => .inr ⟨by omega, y, true, by rw [hq, ← hx19]; exact r, .inr ⟨rfl, y, true, by rw [hq, ← hx19]; exact r2, .inl ⟨rfl, rfl, rfl, rfl⟩⟩⟩
          have T2 : Hid (∀ y z s2, Ie.Stq x q y true → Ie.Stq (x + 1) q z s2 → ¬ (s2 = true ∧ z = y) → TellIs xs e 0 false) := fun y z s2 r r2 ne => .inr ⟨by omega, y, true, by rw [hq, ← hx19]; exact r, .inr ⟨rfl, z, s2, by rw [hq, ← hx19]; exact r2, .inr ⟨ne, rfl, rfl⟩⟩⟩
          clear hx hjc VB HD h19 hp hx19
          go_wp2_with fail
          with_reducible refine (S1.out _).mono ?_
          rintro r w2 ⟨y, s1, rfl, R1, hB2⟩
          have Z2 := hid (Z1.out.on hB2)
          have H1 := hid R1
          have yb := R1.stp.bd
          clear c0 c1 c2 Z1 hB2 R1 S1
          obtain ⟨⟨c0, c1, c2⟩, _⟩ := Z2.out.2.cells
          go_wp2_with fail
          with_reducible refine (S2.out _).mono ?_
          rintro r w3 ⟨z, s2, rfl, R2, hB3⟩
          have Z3 := hid (Z2.out.on hB3)
          have B3 := hid Z3.out.1
          have H2 := hid R2
          clear c0 c1 c2 Z2 hB3 R2 S2
          obtain ⟨⟨c0, c1, c2⟩, _⟩ := Z3.out.2.cells
          cases s1 with
          | false =>
            have TI := hid (T0.out y H1.out)
            clear T0 T1 T2 H1 H2
            have F := hid (G2.out 0 w3 TI.out B3.out)
            clear G1 G2 TI
            go_wp2_with fail
            go_ret2
            exact F.out
          | true =>
            cases s2 with
            | false =>
              have TI := hid (T2.out y z false H1.out H2.out (by simp))
              clear T0 T1 T2 H1 H2
              have F := hid (G2.out 0 w3 TI.out B3.out)
              clear G1 G2 TI
              go_wp2_with fail
              go_ret2
              exact F.out
            | true =>
              by_cases hyz : z = y
              · subst hyz
                have TI := hid (T1.out z H1.out H2.out)
                clear T0 T1 T2 H1 H2
                cases neg with
                | false =>
                  have F : Hid (TryTold false xs e w (.returned (.tuple #[.int .u64 (z), .bool true])) w3) := G1.out z w3 TI.out B3.out
                  clear G1 G2 TI
                  go_wp2_with fail
                  go_ret2
                  exact F.out
                | true =>
                  have F : Hid (TryTold true xs e w (.returned (.tuple #[.int .u64 (z + 9223372036854775808), .bool true])) w3) := G1.out z w3 TI.out B3.out
                  clear G1 G2 TI
                  go_wp2_with fail
                  go_ret2
                  exact F.out
              · have TI := hid (T2.out y z true H1.out H2.out (fun c => hyz c.2))
                have hne : (y == z) = false := by rw [beq_eq_false_iff_ne]; exact fun c => hyz c.symm
                clear T0 T1 T2 H1 H2
                have F := hid (G2.out 0 w3 TI.out B3.out)
                clear G1 G2 TI
                go_wp2_with fail
                go_ret2
                exact F.out
end Go.Proofs.YthgjflfeilbbbaaGreatDoor

namespace Go.Proofs.YthgjflfeilbbbaaGreatDoor
open Go.RowKit Go.Deep Go.ChangeShapes Go.WideShapes Go.ChangeAt

theorem array3 {α : Type} {cs : Array α} (h : cs.size = 3) : ∃ c0 c1 c2, cs = #[c0, c1, c2] := by
  obtain ⟨l⟩ := cs
  match l, h with
  | [c0, c1, c2], _ => exact ⟨c0, c1, c2, rfl⟩

theorem list3 {α : Type} {l : List α} (h : l.length = 3) : ∃ c0 c1 c2, l = [c0, c1, c2] := by
  match l, h with
  | [c0, c1, c2], _ => exact ⟨c0, c1, c2, rfl⟩

theorem open_dec_cells {H : Type} {enc : TypeId × Value → H} {W : World} {fuel : Nat} {a0 a1 a2 : Value} {x : DataW H × List MemPlace} (hf : DataW.trod enc Tryz.prog W 0 (fun _ => true) true fuel 40 [a0, a1, a2] = some x)
    (hsz : ∀ n ∈ x.1.weights Tryz.prog 40, n ≤ reachBytes) :
    ∃ (neg : Bool) (s : ByteArray) (e : Int), a0 = .bool neg ∧ a1 = .string s ∧ a2 = .int .i64 e ∧ s.size ≤ 140737488351232 ∧ (-9223372036854775808 ≤ e ∧ e ≤ 9223372036854775807) := by
  obtain ⟨xs, n, _, hx, _, hlen, hfs⟩ := DataW.trod_struct Tryz.underlying40 hf
  obtain ⟨y0, y1, y2, rfl⟩ := list3 hlen
  have c3 : Tryz.prog.cellsOf 3 = 1 := by kernel_rfl
  have cs : Tryz.prog.cellsOf 9 = 1 := by kernel_rfl
  have cb : Tryz.prog.cellsOf 4 = 1 := by kernel_rfl
  have f0 : DataW.trod enc Tryz.prog W 0 (fun _ => true) true n 4 [a0] = some y0 := by simpa [cb] using hfs 0 _ rfl
  have f1 : DataW.trod enc Tryz.prog W 0 (fun _ => true) true n 9 [a1] = some y1 := by simpa [cs] using hfs 1 _ rfl
  have f2 : DataW.trod enc Tryz.prog W 0 (fun _ => true) true n 3 [a2] = some y2 := by simpa [c3] using hfs 2 _ rfl
  have hd : x.1 = .agg [y0.1, y1.1, y2.1] := by rw [hx]; rfl
  obtain ⟨ng, e0, _⟩ := DataW.trod_bool Tryz.underlying4 f0
  obtain ⟨s, e1, q1, _⟩ := DataW.trod_string Tryz.underlying9 f1
  obtain ⟨E, e2, _, w2⟩ := DataW.trod_int Tryz.underlying3 f2
  have hs : s.data.toList.length ≤ reachBytes := by
    refine hsz _ ?_
    rw [hd]
    simp only [DataW.weights, Tryz.underlying40]
    refine DataW.weights_mem_each (ts := [4, 9, 3]) (ds := [y0.1, y1.1, y2.1]) (j := 1) (t := 9) (d := y1.1) rfl rfl _ ?_
    rw [q1]
    simp [DataW.weights]
  have b2 := bounds_i64 w2
  refine ⟨ng, s, E, (List.cons.inj e0).1, (List.cons.inj e1).1, (List.cons.inj e2).1, ?_, by omega, by omega⟩
  rw [Array.length_toList] at hs
  exact Nat.le_trans (show s.size ≤ reachBytes from hs) (by decide)

set_option maxRecDepth 100000 in
theorem open_dec {H : Type} {enc : TypeId × Value → H} {W : World} {base : Nat} {v : Value} {d : DataW H} {p : List MemPlace} (hv : Value.okWide Tryz.prog W .any base 40 v) (h : DataW.Trod enc Tryz.prog W 0 (fun _ => true) true 40 v d p)
    (hsz : ∀ n ∈ d.weights Tryz.prog 40, n ≤ reachBytes) :
    ∃ (neg : Bool) (s : ByteArray) (e : Int), v = decV neg s e ∧ s.size ≤ 140737488351232 ∧ (-9223372036854775808 ≤ e ∧ e ≤ 9223372036854775807) := by
  obtain ⟨cs, rfl, hs3⟩ := okWide_struct Tryz.underlying40 hv
  obtain ⟨a0, a1, a2, rfl⟩ := array3 (hs3.trans (show Tryz.prog.cellsOf 40 = 3 by kernel_rfl))
  obtain ⟨fuel, hf⟩ := h
  have hf' : DataW.trod enc Tryz.prog W 0 (fun _ => true) true fuel 40 [a0, a1, a2] = some (d, p) := by simpa [Value.cells] using hf
  obtain ⟨neg, s, e, e0, e1, e2, h1, h2⟩ := open_dec_cells (x := (d, p)) hf' hsz
  rw [e0, e1, e2]
  exact ⟨neg, s, e, rfl, h1, h2⟩

theorem str_len (s : ByteArray) {n : Nat} (h : s.size ≤ n) : (s.data.toList.map (fun b => (b.toNat : Int))).length ≤ n := by
  rw [List.length_map, Array.length_toList]; exact h
end Go.Proofs.YthgjflfeilbbbaaGreatDoor

namespace Go.Proofs.YthgjflfeilbbbaaGreatDoor
open Go.RowKit Go.Deep Go.ChangeShapes Go.WideShapes Go.ChangeAt

theorem all_mem9 {H : Type} {P : Program} {e : TypeId} : ∀ {l : List (DataW H)} {d : DataW H}, d ∈ l → ∀ n ∈ d.weights P e, n ∈ DataW.weightsAll P e l
  | [], _, h, _, _ => by simp at h
  | x :: r, d, h, n, hn => by
    simp only [DataW.weightsAll, List.mem_append]
    rcases List.mem_cons.1 h with rfl | h
    · exact .inl hn
    · exact .inr (all_mem9 h n hn)

/-- What can be told of each place can be told of a list. -/
theorem list_of_each9 {α : Type} {Q : Nat → α → Prop} : ∀ n, (∀ i, i < n → ∃ x, Q i x) → ∃ l : List α, l.length = n ∧ ∀ i x, l[i]? = some x → Q i x
  | 0, _ => ⟨[], rfl, by simp⟩
  | n + 1, h => by
    obtain ⟨l, h1, h2⟩ := list_of_each9 n (fun i hi => h i (by omega))
    obtain ⟨x, hx⟩ := h n (by omega)
    refine ⟨l ++ [x], by simp [h1], fun i y hy => ?_⟩
    by_cases hi : i < l.length
    · rw [List.getElem?_append_left hi] at hy
      exact h2 i y hy
    · have hlt := (List.getElem?_eq_some_iff.1 hy).1
      simp only [List.length_append, List.length_cons, List.length_nil] at hlt
      obtain rfl : i = n := by omega
      rw [List.getElem?_append_right (by omega), h1, Nat.sub_self] at hy
      simp at hy
      subst hy
      exact hx

/-- A call that was read. -/
structure O9 where
  K : Int
  V : Int
  Q : Int
  n : Bool
  s : ByteArray
  e : Int

def O9.Cells (w : World) (b o : Nat) (it : O9) : Prop :=
  w.cell? ⟨b, o, none⟩ = some (.int .i64 it.K) ∧ w.cell? ⟨b, o + 1, none⟩ = some (.int .u64 it.V) ∧ w.cell? ⟨b, o + 2, none⟩ = some (.int .i64 it.Q) ∧ w.cell? ⟨b, o + 3, none⟩ = some (.bool it.n) ∧ w.cell? ⟨b, o + 4, none⟩ = some (.string it.s) ∧ w.cell? ⟨b, o + 5, none⟩ = some (.int .i64 it.e)
def O9.Bd (it : O9) : Prop := (0 ≤ it.V ∧ it.V < 18446744073709551616) ∧ it.s.size ≤ 140737488351232
def O9.Holds (w : World) (a : Option Addr) (its : List O9) : Prop := its = [] ∨ ∃ b off, a = some ⟨b, off, none⟩ ∧ ∀ i it, its[i]? = some it → O9.Cells w b (off + i * 6) it

theorem list4n {α : Type} {l : List α} (h : l.length = 4) : ∃ c0 c1 c2 c3, l = [c0, c1, c2, c3] := by
  match l, h with
  | [c0, c1, c2, c3], _ => exact ⟨c0, c1, c2, c3, rfl⟩
theorem list6n {α : Type} {l : List α} (h : l.length = 6) : ∃ c0 c1 c2 c3 c4 c5, l = [c0, c1, c2, c3, c4, c5] := by
  match l, h with
  | [c0, c1, c2, c3, c4, c5], _ => exact ⟨c0, c1, c2, c3, c4, c5, rfl⟩

theorem open_op9 {H : Type} {enc : TypeId × Value → H} {W : World} {fuel : Nat} {a0 a1 a2 a3 a4 a5 : Value} {y : DataW H × List MemPlace} (hf : DataW.trod enc Tryz.prog W 0 (fun _ => true) true fuel 48 [a0, a1, a2, a3, a4, a5] = some y)
    (hsz : ∀ n ∈ y.1.weights Tryz.prog 48, n ≤ reachBytes) :
    ∃ it : O9, a0 = .int .i64 it.K ∧ a1 = .int .u64 it.V ∧ a2 = .int .i64 it.Q ∧ a3 = .bool it.n ∧ a4 = .string it.s ∧ a5 = .int .i64 it.e ∧ it.Bd := by
  obtain ⟨xs, n, _, hx, _, hlen, hfs⟩ := DataW.trod_struct Tryz.underlying48 hf
  obtain ⟨y0, y1, y2, y3, rfl⟩ := list4n hlen
  have ci : Tryz.prog.cellsOf 3 = 1 := by kernel_rfl
  have cu : Tryz.prog.cellsOf 25 = 1 := by kernel_rfl
  have cd : Tryz.prog.cellsOf 40 = 3 := by kernel_rfl
  have f0 : DataW.trod enc Tryz.prog W 0 (fun _ => true) true n 3 [a0] = some y0 := by simpa [ci, cu, cd] using hfs 0 _ rfl
  have f1 : DataW.trod enc Tryz.prog W 0 (fun _ => true) true n 25 [a1] = some y1 := by simpa [ci, cu, cd] using hfs 1 _ rfl
  have f2 : DataW.trod enc Tryz.prog W 0 (fun _ => true) true n 3 [a2] = some y2 := by simpa [ci, cu, cd] using hfs 2 _ rfl
  have f3 : DataW.trod enc Tryz.prog W 0 (fun _ => true) true n 40 [a3, a4, a5] = some y3 := by simpa [ci, cu, cd] using hfs 3 _ rfl
  have hd : y.1 = .agg [y0.1, y1.1, y2.1, y3.1] := by rw [hx]; rfl
  obtain ⟨K, e0, _, w0⟩ := DataW.trod_int Tryz.underlying3 f0
  obtain ⟨V, e1, _, w1⟩ := DataW.trod_int Tryz.underlying25 f1
  obtain ⟨Q, e2, _, w2⟩ := DataW.trod_int Tryz.underlying3 f2
  obtain ⟨ng, s, E, e3, e4, e5, bs, _⟩ := open_dec_cells f3 (fun m hm => by
    refine hsz _ ?_
    rw [hd]
    simp only [DataW.weights, Tryz.underlying48]
    exact DataW.weights_mem_each (ts := [3, 25, 3, 40]) (ds := [y0.1, y1.1, y2.1, y3.1]) (j := 3) (t := 40) (d := y3.1) rfl rfl _ hm)
  have b1 := bounds_u64 w1
  exact ⟨⟨K, V, Q, ng, s, E⟩, (List.cons.inj e0).1, (List.cons.inj e1).1, (List.cons.inj e2).1, e3, e4, e5, ⟨by simp only; omega, by simp only; omega⟩, bs⟩

set_option maxRecDepth 100000 in
theorem open_ops9 {H : Type} {enc : TypeId × Value → H} {W : World} {a : Option Addr} {len cap : Nat} {d : DataW H} {p : List MemPlace} (h : DataW.Trod enc Tryz.prog W 0 (fun _ => true) true 22 (.slice a len cap) d p)
    (hsz : ∀ n ∈ d.weights Tryz.prog 22, n ≤ reachBytes) : ∃ its : List O9, its.length = len ∧ len ≤ cap ∧ cap ≤ 17592186044416 ∧ O9.Holds W a its ∧ ∀ it ∈ its, O9.Bd it := by
  obtain ⟨fuel, hf⟩ := h
  rcases DataW.trod_slice Tryz.underlying22 hf with ⟨hcs, _⟩ | ⟨x, l, c, elems, rest, n, _, hcs, hx, _, hl, hm, he, hel, hsp, _⟩
  · simp [Value.cells] at hcs
    obtain ⟨rfl, rfl, rfl⟩ := hcs
    exact ⟨[], rfl, Nat.le_refl _, by omega, .inl rfl, by intro it h; simp at h⟩
  · simp [Value.cells] at hcs
    obtain ⟨rfl, rfl, rfl⟩ := hcs
    have hd : d = .slice (elems.map (·.1)) (rest.map (·.1)) := (Prod.mk.inj hx).1
    have hw : ∀ n ∈ (DataW.slice (elems.map (·.1)) (rest.map (·.1)) : DataW H).weights Tryz.prog 22, n ≤ reachBytes := by rw [← hd]; exact hsz
    simp only [DataW.weights, Tryz.underlying22] at hw
    have hr := hw _ List.mem_cons_self
    rw [show Tryz.prog.bytesOf 48 = 56 by kernel_rfl] at hr
    have hrl := (hsp rfl).1
    simp only [List.length_map, reachBytes] at hr
    have hcap : cap ≤ 17592186044416 := by omega
    rw [show Tryz.prog.cellsOf 48 = 6 by kernel_rfl] at hel
    obtain ⟨its, i1, i2⟩ := list_of_each9 (Q := fun i (it : O9) => (W.cell? (x.add (i * 6)) = some (.int .i64 it.K) ∧ W.cell? ((x.add (i * 6)).add 1) = some (.int .u64 it.V) ∧ W.cell? ((x.add (i * 6)).add 2) = some (.int .i64 it.Q) ∧ W.cell? ((x.add (i * 6)).add 3) = some (.bool it.n) ∧ W.cell? ((x.add (i * 6)).add 4) = some (.string it.s) ∧ W.cell? ((x.add (i * 6)).add 5) = some (.int .i64 it.e)) ∧ it.Bd) len (fun i hi => by
      have h1 := hel i hi
      have h2 : elems[i]? = some elems[i] := List.getElem?_eq_getElem (by omega)
      rw [h2] at h1
      obtain ⟨cs, h3, h4⟩ := Option.bind_eq_some_iff.1 h1
      obtain ⟨_, h5, h6⟩ := World.cells?_some h3
      obtain ⟨v0, v1, v2, v3, v4, v5, rfl⟩ := list6n h5
      have e0 := h6 0 (by omega)
      have e1 := h6 1 (by omega)
      have e2 := h6 2 (by omega)
      have e3 := h6 3 (by omega)
      have e4 := h6 4 (by omega)
      have e5 := h6 5 (by omega)
      have h8 : (x.add (i * 6)).add 0 = x.add (i * 6) := by simp [Addr.add]
      rw [h8] at e0
      obtain ⟨it, q0, q1, q2, q3, q4, q5, hA⟩ := open_op9 h4 (fun m hm => hw m (List.mem_cons_of_mem _ (List.mem_append_left _ (all_mem9 (List.mem_map.2 ⟨elems[i], List.getElem_mem _, rfl⟩) m hm))))
      subst q0 q1 q2 q3 q4 q5
      exact ⟨it, ⟨e0, e1, e2, e3, e4, e5⟩, hA⟩)
    refine ⟨its, i1, hl, hcap, ?_, ?_⟩
    · rcases Nat.eq_zero_or_pos its.length with h0 | h0
      · exact .inl (List.eq_nil_of_length_eq_zero h0)
      · obtain ⟨b, off, spot⟩ := x
        have hspot : spot = none := by simpa [Addr.add] using World.cell?_spot (i2 0 _ (List.getElem?_eq_getElem h0)).1.1
        subst hspot
        refine .inr ⟨b, off, rfl, fun i it hi => ?_⟩
        obtain ⟨⟨q0, q1, q2, q3, q4, q5⟩, _⟩ := i2 i it hi
        rw [Go.WideShapes.add_plain] at q0 q1 q2 q3 q4 q5
        rw [Go.WideShapes.add_plain] at q1 q2 q3 q4 q5
        exact ⟨q0, q1, q2, q3, q4, q5⟩
    · intro it hit
      obtain ⟨i, hi⟩ := List.getElem?_of_mem hit
      exact (i2 i it hi).2
end Go.Proofs.YthgjflfeilbbbaaGreatDoor
