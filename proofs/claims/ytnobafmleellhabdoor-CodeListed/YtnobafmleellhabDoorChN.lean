/-
  TEXTS CUT AND JOINED: mathematics over lists of bytes.
-/
import Derived.Lib.Split
import Derived.Lib.Replace
namespace Go.Proofs.YtnobafmleellhabDoor
open Go
namespace Ch

abbrev L8 := List UInt8
/-- The text of a list of bytes. -/
def tx (l : L8) : ByteArray := ⟨l.toArray⟩
theorem tx_data (l : L8) : (tx l).data.toList = l := by simp [tx]
theorem tx_self (s : ByteArray) : tx s.data.toList = s := by simp [tx]
theorem tx_size (l : L8) : (tx l).size = l.length := by
  show (tx l).data.size = _
  rw [← Array.length_toList, tx_data]
theorem tx_inj {a b : L8} (h : tx a = tx b) : a = b := by rw [← tx_data a, h, tx_data]
theorem size_len (s : ByteArray) : s.data.toList.length = s.size := by rw [Array.length_toList]; rfl
theorem tx_ext (s : ByteArray) (a b : Nat) : s.extract a b = tx ((s.data.toList.drop a).take (b - a)) := Lib.extract_eq s a b
theorem tx_nil : tx [] = ByteArray.empty := rfl

/-- The first n of the texts, sep between. -/
def jt (sep : L8) (xs : List ByteArray) : Nat → L8
  | 0 => []
  | n + 1 => jt sep xs n ++ ((if n = 0 then [] else sep) ++ (xs.getD n ByteArray.empty).data.toList)
def jn (sep : L8) (xs : List ByteArray) : L8 := jt sep xs xs.length
/-- The texts, sep ahead of each. -/
def ja (sep : L8) : List ByteArray → L8
  | [] => []
  | x :: r => sep ++ (x.data.toList ++ ja sep r)

theorem ja_app (sep : L8) (xs ys : List ByteArray) : ja sep (xs ++ ys) = ja sep xs ++ ja sep ys := by
  induction xs with
  | nil => rfl
  | cons x r ih => simp [ja, ih]
theorem jt_cons (sep : L8) (x : ByteArray) (r : List ByteArray) : ∀ n, n ≤ r.length → jt sep (x :: r) (n + 1) = x.data.toList ++ ja sep (r.take n)
  | 0, _ => by simp [jt, ja]
  | n + 1, h => by
    rw [jt, jt_cons sep x r n (by omega), if_neg (by omega)]
    have e : r.take (n + 1) = r.take n ++ [r[n]'(by omega)] := by rw [List.take_append_getElem]
    have g : (x :: r).getD (n + 1) ByteArray.empty = r[n]'(by omega) := by simp [List.getD, List.getElem?_eq_getElem (show n < r.length by omega)]
    rw [e, ja_app, g]
    simp [ja]
theorem jn_nil (sep : L8) : jn sep [] = [] := rfl
theorem jn_cons (sep : L8) (x : ByteArray) (r : List ByteArray) : jn sep (x :: r) = x.data.toList ++ ja sep r := by
  rw [jn, List.length_cons, jt_cons sep x r r.length (Nat.le_refl _), List.take_length]
theorem jt_len_mono (sep : L8) (xs : List ByteArray) : ∀ {m n : Nat}, m ≤ n → (jt sep xs m).length ≤ (jt sep xs n).length := by
  intro m n h
  induction h with
  | refl => exact Nat.le_refl _
  | step h ih => exact Nat.le_trans ih (by rw [jt, List.length_append]; omega)

/-- Cut at sep as often as it stands, and joined by sep: the text. -/
theorem join_splitK (sep : L8) (hsep : sep ≠ []) : ∀ (k : Nat) (s : L8), ∃ x r, Lib.splitK sep 0 k s = x :: r ∧ x ++ ja sep (r.map tx) = s
  | 0, s => ⟨s, [], rfl, by simp [ja]⟩
  | k + 1, s => by
    unfold Lib.splitK
    rcases Lib.index_spec s sep with ⟨h, _⟩ | ⟨i, h, hi, ho, _⟩
    · rw [if_pos (by simp [h])]
      exact ⟨s, [], rfl, by simp [ja]⟩
    · rw [if_neg (by rw [h]; simp), h]
      obtain ⟨y, r, e1, e2⟩ := join_splitK sep hsep k (s.drop (i + sep.length))
      refine ⟨s.take i, y :: r, by rw [← e1]; simp, ?_⟩
      have hr : i + sep.length ≤ s.length := by rcases Lib.occAt_room ho with h | h; exact h; exact absurd h hsep
      have h2 := Lib.occAt_iff_take s sep i hr
      rw [ho] at h2
      have h3 : (s.drop i).take sep.length = sep := by simpa using h2.symm
      rw [List.map_cons, ja, tx_data, e2]
      conv => rhs; rw [← List.take_append_drop i s, ← List.take_append_drop sep.length (s.drop i), h3, List.drop_drop]
/-- No part holds the separator. -/
theorem splitK_free (sep : L8) (hsep : sep ≠ []) : ∀ (k : Nat) (s : L8), k = Lib.count s sep → ∀ x ∈ Lib.splitK sep 0 k s, Lib.index x sep = -1
  | 0, s, hk, x, hx => by
    rcases Lib.index_spec s sep with ⟨h, _⟩ | ⟨i, h, hi, ho, _⟩
    · simp [Lib.splitK] at hx; rw [hx]; exact h
    · rw [Lib.count_hit hsep h] at hk; omega
  | k + 1, s, hk, x, hx => by
    rcases Lib.index_spec s sep with ⟨h, _⟩ | ⟨i, h, hi, ho, hn⟩
    · rw [Lib.count_miss h] at hk; omega
    · rw [Lib.count_hit hsep h] at hk
      unfold Lib.splitK at hx
      rw [if_neg (by rw [h]; simp), h] at hx
      rcases List.mem_cons.1 hx with rfl | hx
      · refine Lib.index_none fun j hj => ?_
        have hr : i + sep.length ≤ s.length := by rcases Lib.occAt_room ho with h | h; exact h; exact absurd h hsep
        by_cases hc : Lib.occAt (s.take ((i : Int).toNat + 0)) sep j = true
        · exfalso
          have hl : (s.take ((i : Int).toNat + 0)).length = i := by simp; omega
          have hr2 : j + sep.length ≤ i := by rcases Lib.occAt_room hc with h | h; rw [hl] at h; exact h; exact absurd h hsep
          have hpos : 0 < sep.length := List.length_pos_iff.2 hsep
          have h3 := Lib.occAt_iff_take _ sep j (by rw [hl]; exact hr2)
          rw [hc] at h3
          have h4 := Lib.occAt_iff_take s sep j (by omega)
          rw [hn j (by omega)] at h4
          have h5 : ((s.take ((i : Int).toNat + 0)).drop j).take sep.length = (s.drop j).take sep.length := by
            rw [List.drop_take, List.take_take]
            congr 1
            simp
            omega
          rw [h5, ← h4] at h3
          cases h3
        · simpa using hc
      · exact splitK_free sep hsep k _ (by simpa using (by omega : k = Lib.count (s.drop (i + sep.length)) sep)) x (by simpa using hx)

/-- The parts by a text that isn't empty. -/
def cut (s sep : ByteArray) : List ByteArray := Lib.splitB sep 0 (Lib.countB s sep) s
theorem cut_data (s sep : ByteArray) : (cut s sep).map (·.data.toList) = Lib.splitK sep.data.toList 0 (Lib.count s.data.toList sep.data.toList) s.data.toList := Lib.splitB_data sep 0 _ s
theorem map_tx (xs : List ByteArray) : (xs.map (·.data.toList)).map tx = xs := by
  rw [List.map_map]
  conv => rhs; rw [← List.map_id xs]
  exact List.map_congr_left fun x _ => tx_self x
theorem sep_ne {sep : ByteArray} (h : 1 ≤ sep.size) : sep.data.toList ≠ [] := by
  intro e
  have := size_len sep
  rw [e] at this
  simp at this
  omega
theorem cut_join (s sep : ByteArray) (h : 1 ≤ sep.size) : jn sep.data.toList (cut s sep) = s.data.toList := by
  obtain ⟨x, r, e1, e2⟩ := join_splitK sep.data.toList (sep_ne h) (Lib.count s.data.toList sep.data.toList) s.data.toList
  have e3 := cut_data s sep
  rw [e1] at e3
  have e4 : cut s sep = tx x :: r.map tx := by rw [← map_tx (cut s sep), e3]; rfl
  rw [e4, jn_cons, tx_data, e2]
theorem cut_free (s sep : ByteArray) (h : 1 ≤ sep.size) : ∀ x ∈ cut s sep, Lib.index x.data.toList sep.data.toList = -1 := by
  intro x hx
  exact splitK_free _ (sep_ne h) _ _ rfl _ (by rw [← cut_data s sep]; exact List.mem_map.2 ⟨x, hx, rfl⟩)
theorem cut_len (s sep : ByteArray) (h : 1 ≤ sep.size) : (cut s sep).length = Lib.countB s sep + 1 := Lib.splitB_all sep h 0 _ s rfl

/-- Byte by byte. -/
def sg (s : ByteArray) : List ByteArray := s.data.toList.map fun c => ⟨#[c]⟩
theorem sg_len (s : ByteArray) : (sg s).length = s.size := by rw [sg, List.length_map, size_len]
theorem ja_sg : ∀ l : L8, ja [] (l.map fun c => (⟨#[c]⟩ : ByteArray)) = l
  | [] => rfl
  | c :: r => by rw [List.map_cons, ja, ja_sg r]; rfl
theorem sg_join (s : ByteArray) : jn [] (sg s) = s.data.toList := by
  unfold sg
  rcases h : s.data.toList with _ | ⟨c, r⟩
  · rfl
  · rw [List.map_cons, jn_cons, ja_sg]; rfl
theorem sg_one (s : ByteArray) : ∀ x ∈ sg s, x.size = 1 := by
  intro x hx
  obtain ⟨c, _, rfl⟩ := List.mem_map.1 hx
  rfl
theorem sg_at (s : ByteArray) (i : Nat) (h : i < s.size) : (sg s)[i]? = some (s.extract i (i + 1)) := by
  have hl : i < s.data.toList.length := by rw [size_len]; exact h
  rw [tx_ext, sg, List.getElem?_map, List.getElem?_eq_getElem hl, Nat.add_sub_cancel_left, List.drop_eq_getElem_cons hl]
  rfl
theorem sg_take (s : ByteArray) (i : Nat) (h : i < s.size) : (sg s).take (i + 1) = (sg s).take i ++ [s.extract i (i + 1)] := by
  have hl : i < (sg s).length := by rw [sg_len]; exact h
  have := sg_at s i h
  rw [List.getElem?_eq_getElem hl] at this
  rw [← Option.some.inj this, List.take_append_getElem]

/-- A blank; none. -/
def bl (c : UInt8) : Bool := decide (c.toNat = 32) || (decide (9 ≤ c.toNat) && decide (c.toNat ≤ 13))
def nb (c : UInt8) : Bool := !bl c
/-- The runs of bytes that are no blanks. -/
def wl (l : L8) : List L8 :=
  match l with
  | [] => []
  | c :: r => (if (c :: r).takeWhile nb = [] then [] else [(c :: r).takeWhile nb]) ++ wl ((c :: r).drop (((c :: r).takeWhile nb).length + 1))
termination_by l.length
decreasing_by simp; omega
theorem wl_nil : wl [] = [] := by rw [wl]
theorem wl_step (l : L8) (h : l ≠ []) : wl l = (if l.takeWhile nb = [] then [] else [l.takeWhile nb]) ++ wl (l.drop ((l.takeWhile nb).length + 1)) := by
  cases l with
  | nil => exact absurd rfl h
  | cons c r => rw [wl]
def wd (s : ByteArray) : List ByteArray := (wl s.data.toList).map tx

theorem tw_drop (l : L8) : l.drop (l.takeWhile nb).length = l.dropWhile nb := by
  have e : l.drop (l.takeWhile nb).length = (l.takeWhile nb ++ l.dropWhile nb).drop (l.takeWhile nb).length := by rw [List.takeWhile_append_dropWhile]
  rw [e, List.drop_left]
/-- An induction along the runs. -/
theorem run_ind {P : L8 → Prop} (h0 : P []) (h1 : ∀ t : L8, (∀ c ∈ t, nb c = true) → t ≠ [] → P t) (h2 : ∀ (t : L8) (b : UInt8) (r : L8), (∀ c ∈ t, nb c = true) → bl b = true → P r → P (t ++ b :: r)) : ∀ (n : Nat) (l : L8), l.length ≤ n → P l
  | 0, l, h => by rw [List.length_eq_zero_iff.1 (Nat.le_zero.1 h)]; exact h0
  | n + 1, l, h => by
    have e : l = l.takeWhile nb ++ l.dropWhile nb := (List.takeWhile_append_dropWhile).symm
    have ht : ∀ c ∈ l.takeWhile nb, nb c = true := fun c hc => List.all_eq_true.1 List.all_takeWhile c hc
    rcases hd : l.dropWhile nb with _ | ⟨b, r⟩
    · rw [hd, List.append_nil] at e
      by_cases hn : l = []
      · rw [hn]; exact h0
      · rw [e]; exact h1 _ ht (by rw [← e]; exact hn)
    · have hb : bl b = true := by
        have := List.head?_dropWhile_not nb l
        rw [hd] at this
        simpa [nb] using this
      rw [e, hd]
      refine h2 _ _ _ ht hb (run_ind h0 h1 h2 n r ?_)
      rw [e, hd] at h
      simp at h
      omega
theorem tw_all (t : L8) (ht : ∀ c ∈ t, nb c = true) : t.takeWhile nb = t := by
  induction t with
  | nil => rfl
  | cons c r ih => rw [List.takeWhile_cons, if_pos (ht c List.mem_cons_self), ih fun x hx => ht x (List.mem_cons_of_mem _ hx)]
theorem tw_app (t : L8) (b : UInt8) (r : L8) (ht : ∀ c ∈ t, nb c = true) (hb : bl b = true) : (t ++ b :: r).takeWhile nb = t := by
  induction t with
  | nil => simp [nb, hb]
  | cons c u ih => rw [List.cons_append, List.takeWhile_cons, if_pos (ht c List.mem_cons_self), ih fun x hx => ht x (List.mem_cons_of_mem _ hx)]
theorem wl_all (t : L8) (ht : ∀ c ∈ t, nb c = true) (hn : t ≠ []) : wl t = [t] := by
  rw [wl_step t hn, tw_all t ht, if_neg hn]
  rw [List.drop_eq_nil_of_le (by omega), wl_nil, List.append_nil]
theorem wl_app (t : L8) (b : UInt8) (r : L8) (ht : ∀ c ∈ t, nb c = true) (hb : bl b = true) : wl (t ++ b :: r) = (if t = [] then [] else [t]) ++ wl r := by
  rw [wl_step _ (by simp), tw_app t b r ht hb]
  congr 2
  rw [← List.drop_drop]
  simp
theorem wl_flat (l : L8) : (wl l).flatten = l.filter nb := by
  refine run_ind (P := fun l => (wl l).flatten = l.filter nb) (by rw [wl_nil]; rfl) ?_ ?_ l.length l (Nat.le_refl _)
  · intro t ht hn
    rw [wl_all t ht hn]
    simp only [List.flatten_cons, List.flatten_nil, List.append_nil]
    exact (List.filter_eq_self.2 ht).symm
  · intro t b r ht hb ih
    rw [wl_app t b r ht hb, List.flatten_append, ih, List.filter_append, List.filter_eq_self.2 ht, List.filter_cons, show nb b = false by rw [nb, hb]; rfl]
    congr 1
    by_cases h : t = [] <;> simp [h]
theorem wl_good (l : L8) : ∀ x ∈ wl l, x ≠ [] ∧ ∀ c ∈ x, bl c = false := by
  have nbf : ∀ t : L8, (∀ c ∈ t, nb c = true) → ∀ c ∈ t, bl c = false := fun t ht c hc => by have := ht c hc; simpa [nb] using this
  refine run_ind (P := fun l => ∀ x ∈ wl l, x ≠ [] ∧ ∀ c ∈ x, bl c = false) (by rw [wl_nil]; intro x hx; cases hx) ?_ ?_ l.length l (Nat.le_refl _)
  · intro t ht hn x hx
    rw [wl_all t ht hn] at hx
    simp at hx
    subst hx
    exact ⟨hn, nbf _ ht⟩
  · intro t b r ht hb ih x hx
    rw [wl_app t b r ht hb] at hx
    rcases List.mem_append.1 hx with hx | hx
    · by_cases h : t = []
      · simp [h] at hx
      · simp [h] at hx
        subst hx
        exact ⟨h, nbf _ ht⟩
    · exact ih x hx
theorem ja_flat : ∀ ls : List L8, ja [] (ls.map tx) = ls.flatten
  | [] => rfl
  | x :: r => by rw [List.map_cons, ja, ja_flat r, tx_data]; simp
theorem jn_flat (ls : List L8) : jn [] (ls.map tx) = ls.flatten := by
  cases ls with
  | nil => rfl
  | cons x r => rw [List.map_cons, jn_cons, ja_flat, tx_data]; rfl
theorem wd_join (s : ByteArray) : jn [] (wd s) = s.data.toList.filter nb := by rw [wd, jn_flat, wl_flat]
theorem wd_good (s : ByteArray) : ∀ x ∈ wd s, x.data.toList ≠ [] ∧ ∀ c ∈ x.data.toList, bl c = false := by
  intro x hx
  obtain ⟨l, hl, rfl⟩ := List.mem_map.1 hx
  rw [tx_data]
  exact wl_good _ l hl

/-- How many runs begin among the first n bytes. -/
def bg (l : L8) : Nat → Nat
  | 0 => 0
  | n + 1 => bg l n + (if nb (l.getD n 0) && (decide (n = 0) || bl (l.getD (n - 1) 0)) then 1 else 0)
/-- How many runs begin, by what stood ahead. -/
def bs : Bool → L8 → Nat
  | _, [] => 0
  | p, c :: r => (if nb c && p then 1 else 0) + bs (bl c) r
theorem bs_bg (l : L8) : ∀ n, n ≤ l.length → bs true l = bg l n + bs (decide (n = 0) || bl (l.getD (n - 1) 0)) (l.drop n)
  | 0, _ => by simp [bg]
  | n + 1, h => by
    rw [bs_bg l n (by omega), bg, List.drop_eq_getElem_cons (show n < l.length by omega), bs]
    have e : l.getD n 0 = l[n]'(by omega) := by simp [List.getD, List.getElem?_eq_getElem (show n < l.length by omega)]
    rw [show (decide (n + 1 = 0) || bl (l.getD (n + 1 - 1) 0)) = bl (l[n]'(by omega)) by rw [Nat.add_sub_cancel, e]; simp, e]
    omega
theorem bs_all (t : L8) (ht : ∀ c ∈ t, nb c = true) : bs false t = 0 := by
  induction t with
  | nil => rfl
  | cons c r ih =>
    have h := ht c List.mem_cons_self
    have hb : bl c = false := by simpa [nb] using h
    rw [bs, hb, ih fun x hx => ht x (List.mem_cons_of_mem _ hx)]
    simp
theorem bs_app (t : L8) (b : UInt8) (r : L8) (ht : ∀ c ∈ t, nb c = true) (hb : bl b = true) (p : Bool) : bs p (t ++ b :: r) = (if t ≠ [] ∧ p = true then 1 else 0) + bs true r := by
  induction t generalizing p with
  | nil => simp [bs, hb, nb]
  | cons c u ih =>
    have h := ht c List.mem_cons_self
    have hc : bl c = false := by simpa [nb] using h
    rw [List.cons_append, bs, hc, ih (fun x hx => ht x (List.mem_cons_of_mem _ hx)), h]
    simp
theorem bs_wl (l : L8) : (wl l).length = bs true l := by
  refine run_ind (P := fun l => (wl l).length = bs true l) (by rw [wl_nil]; rfl) ?_ ?_ l.length l (Nat.le_refl _)
  · intro t ht hn
    rw [wl_all t ht hn]
    cases t with
    | nil => exact absurd rfl hn
    | cons c r =>
      have h := ht c List.mem_cons_self
      have hc : bl c = false := by simpa [nb] using h
      rw [bs, hc, bs_all r fun x hx => ht x (List.mem_cons_of_mem _ hx), h]
      rfl
  · intro t b r ht hb ih
    rw [wl_app t b r ht hb, List.length_append, ih, bs_app t b r ht hb]
    by_cases h : t = [] <;> simp [h]
theorem wd_len (s : ByteArray) : (wd s).length = bg s.data.toList s.size := by
  have e := bs_bg s.data.toList s.size (by rw [size_len]; exact Nat.le_refl _)
  rw [List.drop_eq_nil_of_le (by rw [size_len]; exact Nat.le_refl _)] at e
  rw [wd, List.length_map, bs_wl, e]
  rfl
theorem bg_le (l : L8) : ∀ n, bg l n ≤ n
  | 0 => Nat.le_refl _
  | n + 1 => by have := bg_le l n; rw [bg]; split <;> omega
theorem wd_le (s : ByteArray) : (wd s).length ≤ s.size := by rw [wd_len]; exact bg_le _ _
end Ch
end Go.Proofs.YtnobafmleellhabDoor
