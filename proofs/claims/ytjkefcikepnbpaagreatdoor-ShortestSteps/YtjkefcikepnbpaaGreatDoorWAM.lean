/-
  Texts put together: FDec, VNormA, NFrom, NRead.
-/
import Derived.Test.YtjkefcikepnbpaaGreatDoorIDec
import Derived.Test.YtjkefcikepnbpaaGreatDoorWAI
import Derived.Test.YtjkefcikepnbpaaGreatDoorWAG
import Derived.OwnWalk
import Derived.Test.YtjkefcikepnbpaaGreatDoorWAB
namespace Go.Proofs.YtjkefcikepnbpaaGreatDoor
open Go Go.RowKit Go.Deep

theorem Ie.fdec (d : Int) (h : Ie.cls d < 3) : 0 ≤ Ie.dm d ∧ Ie.dm d < 9007199254740992 ∧ -1074 ≤ Ie.de d ∧ Ie.de d ≤ 971 ∧ (Ie.cls d = 0 ↔ Ie.dm d = 0) := by
  have fb := Ie.fld_bd d
  unfold Ie.dm Ie.de
  unfold Ie.cls at *
  by_cases a : Ie.fld d = 0
  · rw [if_pos a] at *
    by_cases b : d % 4503599627370496 = 0
    · simp only [if_pos b]
      simp
    · simp only [if_neg b]
      simp
      omega
  · rw [if_neg a] at *
    by_cases b : Ie.fld d = 2047
    · rw [if_pos b] at *
      by_cases c : d % 4503599627370496 = 0
      · rw [if_pos c] at h; omega
      · rw [if_neg c] at h; omega
    · simp only [if_neg b]
      simp
      omega

theorem fretB {a b : Bool} (h : a = b) : Ending.returned (.bool a) = .returned (.bool b) := by rw [h]

/-- No NaN and no infinity. -/
def Ie.fnt (d : Int) : Bool := decide (Ie.cls d < 3)

set_option maxRecDepth 100000 in
theorem ffinite_any (d : Int) (w : World) (h0 : 0 ≤ d) (h1 : d < 18446744073709551616) :
    Calls Tryz.prog 36 #[.int .u64 d] w fun e w' => e = .returned (.bool (Ie.fnt d)) ∧ w' = w := by
  have C := hid (class_any d w h0 h1)
  have E : Hid (Ie.fnt d = decide (Ie.cls d < 3)) := rfl
  generalize Ie.cls d = c at *
  go_enter Tryz.func36, Tryz.ntmps36
  go_wp2_with fail
  refine C.out.mono ?_
  rintro e w' ⟨rfl, rfl⟩
  go_wp2_with fail
  go_ret
  exact ⟨fretB E.out.symm, rfl⟩
end Go.Proofs.YtjkefcikepnbpaaGreatDoor

namespace Go.Proofs.YtjkefcikepnbpaaGreatDoor
open Go Go.RowKit Go.Deep

def errOf (ds : List Int) (e : Int) : Int := if Sc.IsDec ds e then 0 else 80

def NormTold (neg : Bool) (xs : List Int) (e : Int) (w : World) (r : Ending) (w' : World) : Prop := ∃ v, r = .returned (.tuple #[v, .int .i64 (errOf xs e)]) ∧ DecIs v (nmd neg xs e) ∧ Below w.heap.size w w'

set_option maxRecDepth 100000 in
set_option maxHeartbeats 2000000 in
theorem norm_any (neg : Bool) (s : ByteArray) (xs : List Int) (e : Int) (w : World) (hs : Str s xs) (hn : xs.length ≤ 281474976710655) :
    Calls Tryz.prog 40 #[decV neg s e] w fun r w' => NormTold neg xs e w r w' := by
  have T := hid (fun wx => slim_any neg s xs e wx hs (by omega))
  have Z := hid (Two3.new w (.bool neg) (.string s) (.int .i64 e) (.bool false) (.string ⟨#[]⟩) (.int .i64 0))
  have LN : Hid ((nmd neg xs e).ds.length ≤ 281474976710656) := by
    show _ ≤ _
    unfold nmd
    split
    · exact nrm_ds_len _ _ _ (by omega)
    · simp
  clear hs hn
  unfold decV at T ⊢
  go_enter Tryz.func40, Tryz.ntmps40
  go_wp2_with fail
  refine (T.out _).mono ?_
  rintro r w1 ⟨v, rfl, ⟨t, hv, ht⟩, hB⟩
  unfold decV at hv
  subst hv
  have S := hid ((Z.out.on hB).putA (.bool (nmd neg xs e).neg) (.string t) (.int .i64 (nmd neg xs e).e))
  obtain ⟨⟨c0, c1, c2⟩, f0, f1, f2⟩ := (Z.out.on hB).2.1.cells
  have HT := hid ht
  have O := hid (fun wx => own_any (nmd neg xs e).neg t (nmd neg xs e).e wx (by rw [ht.size]; exact LN.out))
  unfold decV at O
  obtain ⟨d, hd⟩ : ∃ d, decide (Sc.IsDec xs e) = d := ⟨_, rfl⟩
  rw [hd]
  cases d with
  | true =>
    have E : Hid (errOf xs e = 0) := by show _ = _; unfold errOf; rw [if_pos (of_decide_eq_true hd)]
    have GG : Hid (∀ w', Below w.heap.size w w' → NormTold neg xs e w (.returned (.tuple #[.agg #[.bool (nmd neg xs e).neg, .string t, .int .i64 (nmd neg xs e).e], .int .i64 0])) w') := fun w' b => ⟨_, by rw [E.out]; rfl, ⟨t, rfl, HT.out⟩, b⟩
    obtain ⟨⟨d0, d1, d2⟩, g0, g1, g2⟩ := (Z.out.on hB).2.2.cells
    clear hB ht Z T hd E
    generalize nmd neg xs e = N at *
    go_wp2_with fail
    refine (O.out _).mono ?_
    rintro r w2 ⟨rfl, hB⟩
    have S2 := hid (S.out.on hB)
    clear c0 c1 c2 f0 f1 f2 d0 d1 d2 g0 g1 g2 hB
    obtain ⟨⟨d0, d1, d2⟩, g0, g1, g2⟩ := S2.out.2.2.cells
    go_wp2_with fail
    (try simp only [Exit.inBlock, Exit.then])
    refine bodyPost_ret (results_row_tmp rfl _ _ (w.heap.size + 1) 25 _ (0, 0) _ rfl (S2.out.putB _ _ _).2.2 Tryz.underlying25 rfl (by kernel_rfl)) rfl ?_
    exact GG.out _ (S2.out.putB _ _ _).1
  | false =>
    have hnd := of_decide_eq_false hd
    have E : Hid (errOf xs e = 80) := by show _ = _; unfold errOf; rw [if_neg hnd]
    have EN : Hid (nmd neg xs e = ⟨false, [], 0⟩) := by show _ = _; unfold nmd; rw [if_neg hnd]
    have GG : Hid (∀ w', Below w.heap.size w w' → NormTold neg xs e w (.returned (.tuple #[.agg #[.bool false, .string ⟨#[]⟩, .int .i64 0], .int .i64 80])) w') := fun w' b => ⟨_, by rw [E.out], by rw [EN.out]; exact ⟨_, rfl, str_nil0⟩, b⟩
    obtain ⟨⟨d0, d1, d2⟩, g0, g1, g2⟩ := (Z.out.on hB).2.2.cells
    clear hB ht Z T hd hnd O
    rw [EN.out] at S ⊢
    go_wp2_with fail
    (try simp only [Exit.inBlock, Exit.then])
    refine bodyPost_ret (results_row_tmp rfl _ _ (w.heap.size + 1) 25 _ (0, 0) _ rfl (S.out.putB _ _ _).2.2 Tryz.underlying25 rfl (by kernel_rfl)) rfl ?_
    exact GG.out _ (S.out.putB _ _ _).1
end Go.Proofs.YtjkefcikepnbpaaGreatDoor

namespace Go.Proofs.YtjkefcikepnbpaaGreatDoor
open Go.RowKit Go.Deep

/-- What FromBase tells. -/
inductive FromIs (xs : List Int) (B : Int) (w0 w' : World) : Option Addr → List Int → Int → Int → Prop
  | base : (B < 2 ∨ 36 < B) → FromIs xs B w0 w' none [] 0 32
  | empty : 2 ≤ B → B ≤ 36 → xs = [] → FromIs xs B w0 w' none [] 0 30
  | digit (t : Nat) : 2 ≤ B → B ≤ 36 → t < xs.length → (∀ i, i < t → wv (xs.getD i 0) < B) → B ≤ wv (xs.getD t 0) → FromIs xs B w0 w' none [] (t : Int) 31
  | big : 2 ≤ B → B ≤ 36 → (∀ i, i < xs.length → wv (xs.getD i 0) < B) → xs ≠ [] → Nm.pw 4096 ≤ Dn.tv B 0 (xs.map wv) → FromIs xs B w0 w' none [] 0 2
  | ok (r : Option Addr) (os : List Int) : 2 ≤ B → B ≤ 36 → (∀ i, i < xs.length → wv (xs.getD i 0) < B) → xs ≠ [] → Dn.tv B 0 (xs.map wv) < Nm.pw 4096 → Ans w0.heap.size w' r os (Dn.tv B 0 (xs.map wv)) → FromIs xs B w0 w' r os 0 0

def FromTold (xs : List Int) (B : Int) (w : World) (e : Ending) (w' : World) : Prop :=
  ∃ r os at_ E, e = .returned (.tuple #[.slice r (List.length os) (List.length os), .int .i64 at_, .int .i64 E]) ∧ FromIs xs B w w' r os at_ E ∧ Below w.heap.size w w'

set_option maxRecDepth 100000 in
set_option maxHeartbeats 4000000 in
theorem fromBase_any (s : ByteArray) (xs : List Int) (B : Int) (w : World) (hs : Str s xs) (hn : xs.length ≤ 140737488355328) (hB0 : -9223372036854775808 ≤ B) (hB1 : B ≤ 9223372036854775807) :
    Calls Tryz.prog 201 #[.string s, .int .i64 B] w fun e w' => FromTold xs B w e w' := by
  by_cases h1 : B < 2 ∨ 36 < B
  · have F : Hid (FromTold xs B w (.returned (.tuple #[.slice none 0 0, .int .i64 0, .int .i64 32])) w) := ⟨none, [], _, _, rfl, .base h1, Below.refl _ _⟩
    clear hs hn
    rcases h1 with h1 | h1
    · go_enter Tryz.func201, Tryz.ntmps201
      go_wp2_with fail
      go_ret3
      exact F.out
    · go_enter Tryz.func201, Tryz.ntmps201
      go_wp2_with fail
      go_ret3
      exact F.out
  have h2 : 2 ≤ B := by omega
  have h36 : B ≤ 36 := by omega
  by_cases h3 : xs = []
  · have F : Hid (FromTold xs B w (.returned (.tuple #[.slice none 0 0, .int .i64 0, .int .i64 30])) w) := ⟨none, [], _, _, rfl, .empty h2 h36 h3, Below.refl _ _⟩
    have hs0 : s = ⟨#[]⟩ := hs.inj (by rw [h3]; rfl)
    subst hs0
    clear hs hn h1 h3
    go_enter Tryz.func201, Tryz.ntmps201
    go_wp2_with fail
    go_ret3
    exact F.out
  have e1 : s.toList ≠ [] := by
    intro c
    apply h3
    rw [ByteArray.toList_eq] at c
    rw [← hs, c]
    rfl
  have e2 : (s.toList == []) = false := by rw [beq_eq_false_iff_ne]; exact e1
  have e3 : s.toList.isEmpty = false := by rw [List.isEmpty_eq_false_iff]; exact e1
  have WR := hid (wrong_any s xs xs.length B w hs rfl hn)
  have HS := hid hs
  have HN := hid hn
  have H3 := hid h3
  clear hs hn h1 h3
  go_enter Tryz.func201, Tryz.ntmps201
  go_wp2_with fail
  refine WR.out.mono ?_
  rintro e w' ⟨⟨r, rfl, k⟩, rfl⟩
  clear WR
  cases k with
  | here t a1 a2 a3 =>
    have F : Hid (FromTold xs B w' (.returned (.tuple #[.slice none 0 0, .int .i64 (t : Int), .int .i64 31])) w') := ⟨none, [], _, _, rfl, .digit t h2 h36 a1 a2 a3, Below.refl _ _⟩
    have ht : (0 : Int) ≤ (t : Int) := by omega
    clear a1 a2 a3
    go_wp2_with fail
    go_ret3
    exact F.out
  | none a1 =>
    have NA := hid (natural_any s xs B w' HS.out HN.out h2 h36 a1)
    have HA := hid a1
    clear a1
    go_wp2_with fail
    refine NA.out.mono ?_
    rintro e w1 ⟨h | h, d1⟩
    · obtain ⟨k1, r, os, rfl, A1⟩ := h
      have F : Hid (FromTold xs B w' (.returned (.tuple #[.slice r (List.length os) (List.length os), .int .i64 0, .int .i64 0])) w1) := ⟨r, os, _, _, rfl, .ok r os h2 h36 HA.out H3.out k1 A1, d1⟩
      clear k1 A1 d1 NA
      go_wp2_with fail
      go_ret3
      exact F.out
    · obtain ⟨k1, rfl⟩ := h
      have F : Hid (FromTold xs B w' (.returned (.tuple #[.slice none 0 0, .int .i64 0, .int .i64 2])) w1) := ⟨none, [], _, _, rfl, .big h2 h36 HA.out H3.out k1, d1⟩
      clear k1 d1 NA
      go_wp2_with fail
      go_ret3
      exact F.out
end Go.Proofs.YtjkefcikepnbpaaGreatDoor

namespace Go.Proofs.YtjkefcikepnbpaaGreatDoor
open Go.RowKit Go.Deep

theorem wv_map {xs : List Int} (h : Digs xs) : xs.map wv = xs.map (fun d => d - 48) := List.map_congr_left (fun x hx => wv_dig (h x hx))

set_option maxRecDepth 100000 in
theorem read_any (s : ByteArray) (xs : List Int) (w : World) (hs : Str s xs) (hl : xs.length ≤ 140737488355328) (hd : Digs xs) (h0 : xs ≠ []) (hv : dv xs < Nm.pw 4096) :
    Calls Tryz.prog 198 #[.string s] w fun e w' => ∃ r os, e = .returned (.tuple #[.slice r (List.length os) (List.length os), .int .i64 0, .int .i64 0]) ∧ Ans w.heap.size w' r os (dv xs) ∧ Below w.heap.size w w' := by
  have FB : Hid (Calls Tryz.prog 201 #[.string s, .int .i64 10] w fun e w' => ∃ r os, e = .returned (.tuple #[.slice r (List.length os) (List.length os), .int .i64 0, .int .i64 0]) ∧ Ans w.heap.size w' r os (dv xs) ∧ Below w.heap.size w w') := by
    refine (fromBase_any s xs 10 w hs hl (by omega) (by omega)).mono ?_
    rintro e w' ⟨r, os, at_, E, rfl, h, d⟩
    have ev : Dn.tv 10 0 (xs.map wv) = dv xs := by rw [wv_map hd]; rfl
    cases h with
    | base h => omega
    | empty _ _ h => exact absurd h h0
    | digit t _ _ h1 _ h3 =>
      have := digs_at hd t h1
      rw [wv_dig this] at h3
      omega
    | big _ _ _ _ h =>
      rw [ev] at h
      exact absurd hv (Int.not_lt.2 h)
    | ok r os _ _ _ _ _ h =>
      rw [ev] at h
      exact ⟨r, os, rfl, h, d⟩
  clear hs hl hd h0 hv
  go_enter Tryz.func198, Tryz.ntmps198
  go_wp2_with fail
  refine FB.out.mono ?_
  rintro e w1 ⟨r, os, rfl, A1, d1⟩
  have F := hid (And.intro A1 d1)
  clear A1 d1 FB
  go_wp2_with fail
  go_ret3
  exact ⟨r, os, rfl, F.out⟩

end Go.Proofs.YtjkefcikepnbpaaGreatDoor
