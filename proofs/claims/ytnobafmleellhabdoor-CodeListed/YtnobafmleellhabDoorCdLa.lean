/-
  code: a listing's lines, in lists of bytes: what they hold, and that a listing has one code.
-/
import Derived.Test.YtnobafmleellhabDoorCdT
namespace Go.Proofs.YtnobafmleellhabDoor
open Go Go.RowKit Go.Deep Go.Shelf

namespace Cd
def dv (l : Ch.L8) : Nat := l.foldl (fun a c => a * 10 + (c.toNat - 48)) 0
theorem dec_is (u : Nat) : dv (Lib.decDigits u) = u ∧ ∀ c ∈ Lib.decDigits u, 48 ≤ c.toNat ∧ c.toNat ≤ 57 := by
  induction u using Nat.strongRecOn with
  | _ u ih =>
    have hd : ∀ d, d < 10 → (UInt8.ofNat (48 + d)).toNat = 48 + d := fun d h => by
      rw [UInt8.toNat_ofNat']; exact Nat.mod_eq_of_lt (by omega)
    by_cases h : u < 10
    · rw [Lib.decDigits, dif_pos h]
      refine ⟨?_, fun c hc => ?_⟩
      · simp only [dv, List.foldl_cons, List.foldl_nil, hd u h]; omega
      · rw [List.mem_singleton] at hc
        rw [hc, hd u h]; omega
    · obtain ⟨h1, h2⟩ := ih (u / 10) (by omega)
      have hm := hd (u % 10) (by omega)
      rw [Lib.decDigits, dif_neg h]
      refine ⟨?_, fun c hc => ?_⟩
      · unfold dv at h1 ⊢
        rw [List.foldl_append, h1]
        simp only [List.foldl_cons, List.foldl_nil, hm]; omega
      · rcases List.mem_append.1 hc with k | k
        · exact h2 c k
        · rw [List.mem_singleton] at k
          rw [k, hm]; omega
theorem ito_ch (v : Int) (h : 0 ≤ v) : ∀ c ∈ Lib.itoa v, 48 ≤ c.toNat ∧ c.toNat ≤ 57 := by
  obtain ⟨u, rfl⟩ : ∃ u : Nat, v = (u : Int) := ⟨v.toNat, by omega⟩
  rw [Lib.itoa_nonneg]; exact (dec_is u).2
theorem ito_inj {u v : Int} (hu : 0 ≤ u) (hv : 0 ≤ v) (h : Lib.itoa u = Lib.itoa v) : u = v := by
  obtain ⟨a, rfl⟩ : ∃ a : Nat, u = (a : Int) := ⟨u.toNat, by omega⟩
  obtain ⟨b, rfl⟩ : ∃ b : Nat, v = (b : Int) := ⟨v.toNat, by omega⟩
  rw [Lib.itoa_nonneg, Lib.itoa_nonneg] at h
  have := (dec_is a).1
  rw [h, (dec_is b).1] at this
  omega
theorem cut_nl : ∀ {A B R R' : Ch.L8}, (∀ c ∈ A, c.toNat ≠ 10) → (∀ c ∈ B, c.toNat ≠ 10) → A ++ 10 :: R = B ++ 10 :: R' → A = B ∧ R = R'
  | [], [], R, R', _, _, h => ⟨rfl, (List.cons.inj h).2⟩
  | [], b :: B, R, R', _, hB, h => absurd (by rw [← (List.cons.inj h).1]; rfl) (hB b (List.mem_cons_self ..))
  | a :: A, [], R, R', hA, _, h => absurd (by rw [(List.cons.inj h).1]; rfl) (hA a (List.mem_cons_self ..))
  | a :: A, b :: B, R, R', hA, hB, h => by
    obtain ⟨h1, h2⟩ := List.cons.inj h
    obtain ⟨h3, h4⟩ := cut_nl (fun c hc => hA c (List.mem_cons_of_mem _ hc)) (fun c hc => hB c (List.mem_cons_of_mem _ hc)) h2
    exact ⟨by rw [h1, h3], h4⟩
/-- Begins below 33. -/
def low (R : Ch.L8) : Prop := ∃ c t, R = c :: t ∧ c.toNat < 33
theorem cut_low : ∀ {A B R R' : Ch.L8}, (∀ c ∈ A, 33 ≤ c.toNat) → (∀ c ∈ B, 33 ≤ c.toNat) → low R → low R' → A ++ R = B ++ R' → A = B ∧ R = R'
  | [], [], R, R', _, _, _, _, h => ⟨rfl, h⟩
  | [], b :: B, R, R', _, hB, ⟨c, t, e, k⟩, _, h => by
    have h' : R = b :: (B ++ R') := h
    rw [e] at h'
    have := hB b (List.mem_cons_self ..)
    rw [(List.cons.inj h').1] at k
    omega
  | a :: A, [], R, R', hA, _, _, ⟨c, t, e, k⟩, h => by
    have h' : a :: (A ++ R) = R' := h
    rw [e] at h'
    have := hA a (List.mem_cons_self ..)
    rw [← (List.cons.inj h').1] at k
    omega
  | a :: A, b :: B, R, R', hA, hB, l1, l2, h => by
    obtain ⟨h1, h2⟩ := List.cons.inj h
    obtain ⟨h3, h4⟩ := cut_low (fun c hc => hA c (List.mem_cons_of_mem _ hc)) (fun c hc => hB c (List.mem_cons_of_mem _ hc)) l1 l2 h2
    exact ⟨by rw [h1, h3], h4⟩
theorem fds_low (F : List Int) {T : Ch.L8} (h : low T) : low (F.flatMap fd ++ T) := by
  cases F with
  | nil => exact h
  | cons v F => exact ⟨32, _, by rw [List.flatMap_cons, fd]; rfl, by decide⟩
theorem fds_inj : ∀ {F G : List Int} {T T' : Ch.L8}, F.length = G.length → (∀ v ∈ F, 0 ≤ v) → (∀ v ∈ G, 0 ≤ v) → low T → low T' → F.flatMap fd ++ T = G.flatMap fd ++ T' → F = G
  | [], [], _, _, _, _, _, _, _, _ => rfl
  | [], _ :: _, _, _, h, _, _, _, _, _ => by simp at h
  | _ :: _, [], _, _, h, _, _, _, _, _ => by simp at h
  | u :: F, v :: G, T, T', hl, hF, hG, l1, l2, h => by
    rw [List.flatMap_cons, List.flatMap_cons, fd, fd, List.append_assoc, List.append_assoc] at h
    have h1 := (List.cons.inj h).2
    have u0 := hF u (List.mem_cons_self ..)
    have v0 := hG v (List.mem_cons_self ..)
    obtain ⟨h2, h3⟩ := cut_low (fun c hc => by have := ito_ch u u0 c hc; omega) (fun c hc => by have := ito_ch v v0 c hc; omega) (fds_low F l1) (fds_low G l2) h1
    rw [ito_inj u0 v0 h2, fds_inj (by simpa using hl) (fun w hw => hF w (List.mem_cons_of_mem _ hw)) (fun w hw => hG w (List.mem_cons_of_mem _ hw)) l1 l2 h3]
theorem tab_lt : ∀ r ∈ tab, ∀ c ∈ r.name.data.toList, 97 ≤ c.toNat ∧ c.toNat ≤ 122 := by decide +kernel
theorem tab_dn : ∀ m n : Fin 34, (row m.val).name.data.toList = (row n.val).name.data.toList → m = n := by decide +kernel
theorem row_lt (n : Nat) : ∀ c ∈ (row n).name.data.toList, 97 ≤ c.toNat ∧ c.toNat ≤ 122 := by
  by_cases h : n < 34
  · refine tab_lt _ ?_
    rw [row, List.getD_eq_getElem?_getD, List.getElem?_eq_getElem (by rw [tab_len]; exact h)]
    exact List.getElem_mem _
  · have : row n = zr := by rw [row, List.getD_eq_getElem?_getD, List.getElem?_eq_none (by rw [tab_len]; omega)]; rfl
    rw [this]
    intro c hc
    simp [zr] at hc
theorem hx_ch (d : Nat) (h : d < 16) : 48 ≤ (hx d).toNat ∧ (hx d).toNat ≤ 102 := by
  have : ∀ d : Fin 16, 48 ≤ (hx d.val).toNat ∧ (hx d.val).toNat ≤ 102 := by decide
  exact this ⟨d, h⟩
theorem ls_ch (c : UInt8) : ∀ z ∈ ls c, 32 ≤ z.toNat ∧ z.toNat ≤ 126 := by
  intro z hz
  have hc := c.toNat_lt
  unfold ls at hz
  split at hz
  · rename_i p
    rw [List.mem_singleton] at hz
    rw [hz]; exact ⟨p.1, p.2.1⟩
  · have a := hx_ch (c.toNat / 16) (by omega)
    have b := hx_ch (c.toNat % 16) (by omega)
    simp only [List.mem_cons, List.not_mem_nil, or_false] at hz
    rcases hz with rfl | rfl | rfl | rfl
    · decide
    · decide
    · omega
    · omega
theorem tl_ch (x : In) (nums : List Int) (strs : List ByteArray) : ∀ z ∈ tl x nums strs, 32 ≤ z.toNat ∧ z.toNat ≤ 126 := by
  intro z hz
  unfold tl at hz
  split at hz
  · rcases List.mem_cons.1 hz with rfl | h
    · decide
    · unfold hex16 at h
      obtain ⟨k, -, rfl⟩ := List.mem_map.1 h
      have := hx_ch ((nums.getD x.a.toNat 0).toNat / 16 ^ (15 - k) % 16) (by omega)
      omega
  · split at hz
    · rcases List.mem_cons.1 hz with rfl | h
      · decide
      · unfold qt at h
        rcases List.mem_append.1 h with h | h
        · rcases List.mem_cons.1 h with rfl | h
          · decide
          · obtain ⟨c, -, h⟩ := List.mem_flatMap.1 h
            exact ls_ch c z h
        · rw [List.mem_singleton] at h
          rw [h]; decide
    · cases hz
theorem tl_low (x : In) (nums : List Int) (strs : List ByteArray) (R : Ch.L8) : low (tl x nums strs ++ 10 :: R) := by
  unfold tl
  split
  · exact ⟨32, _, rfl, by decide⟩
  · split
    · exact ⟨32, _, rfl, by decide⟩
    · exact ⟨10, _, rfl, by decide⟩
/-- A line without its end. -/
def bd (i : Nat) (x : In) (nums : List Int) (strs : List ByteArray) : Ch.L8 :=
  Lib.itoa i ++ [58, 32] ++ ((rx x).name.data.toList ++ ((fs (rx x) x.a x.b).flatMap fd ++ tl x nums strs))
theorem ln_bd (i : Nat) (x : In) (nums : List Int) (strs : List ByteArray) : ln i x nums strs = bd i x nums strs ++ [10] := by
  unfold ln bd
  simp only [List.append_assoc]
theorem fs_ge {n N S i : Nat} {x : In} (h : rt n N S i x = true) (hn : n ≤ 9223372036854775807) (hN : N ≤ 9223372036854775807) (hS : S ≤ 9223372036854775807) : ∀ v ∈ fs (rx x) x.a x.b, 0 ≤ v := fun v hv => (rt_wr h hn hN hS).2.2 v hv |>.1
theorem bd_ch {i : Nat} {x : In} (nums : List Int) (strs : List ByteArray) (hF : ∀ v ∈ fs (rx x) x.a x.b, 0 ≤ v) : ∀ c ∈ bd i x nums strs, 32 ≤ c.toNat ∧ c.toNat ≤ 126 := by
  intro c hc
  unfold bd at hc
  rcases List.mem_append.1 hc with h | h
  · rcases List.mem_append.1 h with h | h
    · have := ito_ch i (by omega) c h; omega
    · simp only [List.mem_cons, List.not_mem_nil, or_false] at h
      rcases h with rfl | rfl <;> decide
  · rcases List.mem_append.1 h with h | h
    · have := row_lt _ c h; omega
    · rcases List.mem_append.1 h with h | h
      · obtain ⟨v, hv, h⟩ := List.mem_flatMap.1 h
        rcases List.mem_cons.1 h with rfl | h
        · decide
        · have := ito_ch v (hF v hv) c h; omega
      · exact tl_ch x nums strs c h
theorem ft_none {r : Rw} {A B : Int} (h : ft r A B = true) (e : r.a = 10 → r.b ≠ 0) : (r.a = 0 → A = 0) ∧ (r.b = 0 → B = 0) := by
  unfold ft at h
  by_cases c : r.a = 10
  · exact ⟨fun k => by omega, fun k => absurd k (e c)⟩
  · rw [if_neg c, Bool.and_eq_true] at h
    refine ⟨fun k => ?_, fun k => ?_⟩
    · have := h.1
      rw [k] at this
      simpa [hd] using this
    · have := h.2
      rw [k] at this
      simpa [hd] using this
theorem tab_10 : ∀ r ∈ tab, r.a = 10 → r.b ≠ 0 := by decide +kernel
theorem line_inj {i n N S n' N' S' : Nat} {x y : In} (nums nums' : List Int) (strs strs' : List ByteArray) (hx : rt n N S i x = true) (hy : rt n' N' S' i y = true) (b1 : n ≤ 9223372036854775807) (b2 : N ≤ 9223372036854775807) (b3 : S ≤ 9223372036854775807) (d1 : n' ≤ 9223372036854775807) (d2 : N' ≤ 9223372036854775807) (d3 : S' ≤ 9223372036854775807) {R R' : Ch.L8} (h : ln i x nums strs ++ R = ln i y nums' strs' ++ R') : x = y ∧ R = R' := by
  have fx := fs_ge hx b1 b2 b3
  have fy := fs_ge hy d1 d2 d3
  rw [ln_bd, ln_bd, List.append_assoc, List.append_assoc] at h
  obtain ⟨h1, h2⟩ := cut_nl (fun c hc => by have := bd_ch nums strs fx c hc; omega) (fun c hc => by have := bd_ch nums' strs' fy c hc; omega) h
  refine ⟨?_, h2⟩
  clear h h2
  unfold bd at h1
  have h3 := List.append_cancel_left h1
  have h4 : (rx x).name.data.toList ++ ((fs (rx x) x.a x.b).flatMap fd ++ (tl x nums strs ++ [10])) = (rx y).name.data.toList ++ ((fs (rx y) y.a y.b).flatMap fd ++ (tl y nums' strs' ++ [10])) := by
    have := congrArg (· ++ [10]) h3
    simpa only [List.append_assoc] using this
  obtain ⟨h5, h6⟩ := cut_low (fun c hc => by have := row_lt _ c hc; omega) (fun c hc => by have := row_lt _ c hc; omega) (fds_low _ (tl_low ..)) (fds_low _ (tl_low ..)) h4
  obtain ⟨x1, x2, x3⟩ := ok_ft (rt_ok hx).1
  obtain ⟨y1, y2, y3⟩ := ok_ft (rt_ok hy).1
  have e : (⟨x.w.toNat, by omega⟩ : Fin 34) = ⟨y.w.toNat, by omega⟩ := tab_dn ⟨x.w.toNat, by omega⟩ ⟨y.w.toNat, by omega⟩ h5
  have e1 : x.w.toNat = y.w.toNat := Fin.mk.inj e
  have er : rx y = rx x := by unfold rx; rw [e1]
  rw [er] at h6 y3 fy
  have h7 := fds_inj (by unfold fs; split <;> split <;> rfl) fx fy (tl_low ..) (tl_low ..) h6
  have hr : (rx x).a = 10 → (rx x).b ≠ 0 := by
    refine tab_10 _ ?_
    rw [rx, row, List.getD_eq_getElem?_getD, List.getElem?_eq_getElem (by rw [tab_len]; omega)]
    exact List.getElem_mem _
  have zx := ft_none x3 hr
  have zy := ft_none y3 hr
  unfold fs at h7
  have ew : x.w = y.w := by omega
  clear e e1 er
  obtain ⟨xw, xa, xb⟩ := x
  obtain ⟨yw, ya, yb⟩ := y
  simp only at ew
  subst ew
  simp only at *
  generalize rx ⟨xw, xa, xb⟩ = r at *
  by_cases ca : r.a = 0
  · have q1 := zx.1 ca
    have q2 := zy.1 ca
    by_cases cb : r.b = 0
    · rw [q1, q2, zx.2 cb, zy.2 cb]
    · rw [if_pos ca, if_pos ca, if_neg cb, if_neg cb] at h7
      have := (List.cons.inj h7).1
      rw [q1, q2, this]
  · by_cases cb : r.b = 0
    · rw [if_neg ca, if_neg ca, if_pos cb, if_pos cb] at h7
      have := (List.cons.inj h7).1
      rw [zx.2 cb, zy.2 cb, this]
    · rw [if_neg ca, if_neg ca, if_neg cb, if_neg cb] at h7
      obtain ⟨k1, k2⟩ := List.cons.inj h7
      have := (List.cons.inj k2).1
      rw [k1, this]
def lf (nums : List Int) (strs : List ByteArray) : Nat → List In → Ch.L8
  | _, [] => []
  | i, x :: l => ln i x nums strs ++ lf nums strs (i + 1) l
theorem lf_is (nums : List Int) (strs : List ByteArray) : ∀ (l : List In) (i : Nat), (List.range l.length).flatMap (fun j => ln (i + j) (l.getD j z0) nums strs) = lf nums strs i l
  | [], _ => rfl
  | x :: l, i => by
    rw [List.length_cons, List.range_succ_eq_map, List.flatMap_cons, lf, ← lf_is nums strs l (i + 1), List.flatMap_map]
    simp [Nat.add_assoc, Nat.add_comm 1]
theorem lst_lf (l : List In) (nums : List Int) (strs : List ByteArray) : lst l nums strs = lf nums strs 0 l := by
  rw [← lf_is nums strs l 0]
  simp [lst, lnr]
theorem lf_inj {n N S n' N' S' : Nat} (nums nums' : List Int) (strs strs' : List ByteArray) (b1 : n ≤ 9223372036854775807) (b2 : N ≤ 9223372036854775807) (b3 : S ≤ 9223372036854775807) (d1 : n' ≤ 9223372036854775807) (d2 : N' ≤ 9223372036854775807) (d3 : S' ≤ 9223372036854775807) :
    ∀ (l l' : List In) (i : Nat), (∀ j x, l[j]? = some x → rt n N S (i + j) x = true) → (∀ j x, l'[j]? = some x → rt n' N' S' (i + j) x = true) → lf nums strs i l = lf nums' strs' i l' → l = l'
  | [], [], _, _, _, _ => rfl
  | [], y :: l', i, _, _, h => by
    have : (lf nums' strs' i (y :: l')).length = 0 := by rw [← h]; rfl
    rw [lf, ln_bd] at this
    simp at this
  | x :: l, [], i, _, _, h => by
    have : (lf nums strs i (x :: l)).length = 0 := by rw [h]; rfl
    rw [lf, ln_bd] at this
    simp at this
  | x :: l, y :: l', i, hl, hl', h => by
    obtain ⟨h1, h2⟩ := line_inj nums nums' strs strs' (hl 0 x rfl) (hl' 0 y rfl) b1 b2 b3 d1 d2 d3 h
    rw [h1, lf_inj nums nums' strs strs' b1 b2 b3 d1 d2 d3 l l' (i + 1) (fun j z hz => by have := hl (j + 1) z hz; rwa [show i + 1 + j = i + (j + 1) by omega]) (fun j z hz => by have := hl' (j + 1) z hz; rwa [show i + 1 + j = i + (j + 1) by omega]) h2]
theorem lst_inj {l l' : List In} {nums nums' : List Int} {strs strs' : List ByteArray} (hx : ∀ i x, l[i]? = some x → rt l.length nums.length strs.length i x = true) (hy : ∀ i x, l'[i]? = some x → rt l'.length nums'.length strs'.length i x = true) (b1 : l.length ≤ 9223372036854775807) (b2 : nums.length ≤ 9223372036854775807) (b3 : strs.length ≤ 9223372036854775807) (d1 : l'.length ≤ 9223372036854775807) (d2 : nums'.length ≤ 9223372036854775807) (d3 : strs'.length ≤ 9223372036854775807) (h : lst l nums strs = lst l' nums' strs') : l = l' := by
  rw [lst_lf, lst_lf] at h
  exact lf_inj nums nums' strs strs' b1 b2 b3 d1 d2 d3 l l' 0 (fun j x h => by rw [Nat.zero_add]; exact hx j x h) (fun j x h => by rw [Nat.zero_add]; exact hy j x h) h
theorem lnr_pre (l : List In) (nums : List Int) (strs : List ByteArray) (j d : Nat) : ∃ R, lnr l nums strs (j + d) = lnr l nums strs j ++ R := by
  induction d with
  | zero => exact ⟨[], by rw [List.append_nil]; rfl⟩
  | succ d ih =>
    obtain ⟨R, hR⟩ := ih
    refine ⟨R ++ ln (j + d) (l.getD (j + d) z0) nums strs, ?_⟩
    rw [← List.append_assoc, ← hR]
    unfold lnr
    rw [← Nat.add_assoc, List.range_succ (n := j + d), List.flatMap_append]
    simp
/-- A line of the listing. -/
theorem lst_seg {l : List In} {nums : List Int} {strs : List ByteArray} (hx : ∀ i x, l[i]? = some x → rt l.length nums.length strs.length i x = true) (b1 : l.length ≤ 9223372036854775807) (b2 : nums.length ≤ 9223372036854775807) (b3 : strs.length ≤ 9223372036854775807) {k : Nat} (hk : k < l.length) :
    ∃ T R, (∀ c ∈ Lib.itoa k ++ [58, 32] ++ T, 32 ≤ c.toNat ∧ c.toNat ≤ 126) ∧ lnr l nums strs (k + 1) = lnr l nums strs k ++ ((Lib.itoa k ++ [58, 32] ++ T) ++ [10]) ∧ lst l nums strs = lnr l nums strs k ++ ((Lib.itoa k ++ [58, 32] ++ T) ++ [10]) ++ R := by
  have hg : l[k]? = some l[k] := List.getElem?_eq_getElem hk
  have h1 := lnr_step (nums := nums) (strs := strs) hg
  obtain ⟨R, hR⟩ := lnr_pre l nums strs (k + 1) (l.length - (k + 1))
  rw [show k + 1 + (l.length - (k + 1)) = l.length by omega] at hR
  have hb := bd_ch (i := k) nums strs (fs_ge (hx k _ hg) b1 b2 b3)
  rw [ln_bd] at h1
  refine ⟨_, R, hb, h1, ?_⟩
  rw [← bd, ← h1]
  exact hR
end Cd
end Go.Proofs.YtnobafmleellhabDoor
