/-
  abacusref08: digit, size.
-/
import Derived.Test.YtjghlpkjbfaoiaaDoorVRNorm
namespace Go.Proofs.YtjghlpkjbfaoiaaDoor
namespace Sc
def gd (l : List Int) (i : Nat) : Int := l.getD i 48
theorem gd_lt {l : List Int} {i : Nat} (h : i < l.length) : gd l i = pk l i := by simp [gd, pk, List.getD, h]
theorem gd_ge {l : List Int} {i : Nat} (h : l.length ≤ i) : gd l i = 48 := by simp [gd, List.getD, List.getElem?_eq_none h]
theorem lex_at : ∀ (i : Nat) (a b : List Int), (∀ x ∈ a, 48 ≤ x) → (∀ x ∈ b, 48 ≤ x) → (∀ t, t < i → gd a t = gd b t) → gd a i < gd b i → lex a b = -1 := by
  intro i
  induction i with
  | zero =>
    intro a b ha hb _ h
    cases a with
    | nil =>
      cases b with
      | nil => simp [gd] at h
      | cons y b => rfl
    | cons x a =>
      cases b with
      | nil => simp [gd] at h; have := ha x (by simp); omega
      | cons y b => simp [gd] at h; simp [lex, h]
  | succ i ih =>
    intro a b ha hb he h
    cases a with
    | nil =>
      cases b with
      | nil => simp [gd] at h
      | cons y b => rfl
    | cons x a =>
      cases b with
      | nil =>
        exfalso
        have h1 : gd (x :: a) (i + 1) = gd a i := by simp [gd]
        have h2 : gd ([] : List Int) (i + 1) = 48 := by simp [gd]
        rw [h1, h2] at h
        rcases Nat.lt_or_ge i a.length with c | c
        · have := ha (a[i]) (by simp)
          rw [gd_lt c] at h
          have e : pk a i = a[i] := by simp [pk, List.getD, c]
          omega
        · rw [gd_ge c] at h; omega
      | cons y b =>
        have h0 := he 0 (by omega)
        simp [gd] at h0
        subst h0
        have := ih a b (fun z hz => ha z (by simp [hz])) (fun z hz => hb z (by simp [hz])) (fun t ht => by have := he (t + 1) (by omega); simpa [gd] using this) (by simpa [gd] using h)
        simp [lex, this]
theorem eq_of_gd {a b : List Int} (ha : a ≠ [] → pk a (a.length - 1) ≠ 48) (hb : b ≠ [] → pk b (b.length - 1) ≠ 48) (h : ∀ t, gd a t = gd b t) : a = b := by
  have len : a.length = b.length := by
    rcases Nat.lt_trichotomy a.length b.length with c | c | c
    · exfalso
      have hb' := hb (fun k => by rw [k] at c; simp at c)
      have := h (b.length - 1)
      rw [gd_ge (by omega), gd_lt (by omega)] at this
      exact hb' this.symm
    · exact c
    · exfalso
      have ha' := ha (fun k => by rw [k] at c; simp at c)
      have := h (a.length - 1)
      rw [gd_ge (l := b) (by omega), gd_lt (by omega)] at this
      exact ha' this
  apply List.ext_getElem len
  intro i h1 h2
  have := h i
  rw [gd_lt h1, gd_lt h2] at this
  simpa [pk, List.getD, h1, h2] using this
/-- What size answers. -/
def sz (a b : D) : Int := if a.ds = [48] ∨ b.ds = [48] then (if a.ds = b.ds then 0 else if a.ds = [48] then -1 else 1) else mc a b
end Sc
open Go Go.RowKit Go.Deep

theorem vret_int {k : IntKind} {a b : Int} (h : a = b) : Ending.returned (.int k a) = .returned (.int k b) := by rw [h]

theorem rdigit_any (d : Sc.D) (s : ByteArray) (i : Nat) (p : Int) (w : World) (hs : Str s d.ds) (hp : p = d.e + d.ds.length - 1 - i) (e0 : -1152921504606846976 ≤ d.e) (e1 : d.e ≤ 1152921504606846976) (hn : d.ds.length ≤ 281474976710657) (hi : i ≤ 281474976710657) :
    Calls Tryd.prog 61 #[.agg #[.bool d.neg, .string s, .int .i64 d.e], .int .i64 p] w fun r w' => r = .returned (.int .u8 (Sc.gd d.ds i)) ∧ Below w.heap.size w w' := by
  have B := hid (alloc_b w (.cells #[.bool d.neg, .string s, .int .i64 d.e] 29))
  have hsz := hs.size
  have hx := hs.pk i
  have hpi : d.e + (d.ds.length : Int) - 1 - p = (i : Int) := by omega
  have hpb : -1152921504606846976 - 281474976710660 ≤ p ∧ p ≤ 1152921504606846976 + 281474976710660 := by omega
  have hnb : (d.ds.length : Int) ≤ 281474976710657 := by omega
  by_cases h : i < d.ds.length
  · have h1 : (i : Int) < (d.ds.length : Int) := by omega
    have E := hid (Sc.gd_lt h)
    clear hs hp h hi
    go_enter Tryd.func61, Tryd.ntmps61
    go_wp2_with fail
    go_ret
    exact ⟨vret_int E.out.symm, B.out⟩
  · have h1 : ¬ (i : Int) < (d.ds.length : Int) := by omega
    have E : Hid (Sc.gd d.ds i = 48) := Sc.gd_ge (by omega)
    clear hs hp h hi
    go_enter Tryd.func61, Tryd.ntmps61
    go_wp2_with fail
    go_ret
    exact ⟨vret_int E.out.symm, B.out⟩

/-- A normal Dec as size wants it. -/
structure Nd (d : Sc.D) : Prop where
  e0 : -1152921504606846976 ≤ d.e
  e1 : d.e ≤ 1152921504606846976
  len : d.ds.length ≤ 281474976710657
  dig : ∀ x ∈ d.ds, 48 ≤ x ∧ x ≤ 57
  last : d.ds ≠ [48] → Sc.pk d.ds (d.ds.length - 1) ≠ 48

set_option maxRecDepth 100000 in
set_option maxHeartbeats 4000000 in
theorem size_any (a b : Sc.D) (s t : ByteArray) (w : World) (hs : Str s a.ds) (ht : Str t b.ds) (ha : Nd a) (hb : Nd b) :
    Calls Tryd.prog 48 #[.agg #[.bool a.neg, .string s, .int .i64 a.e], .agg #[.bool b.neg, .string t, .int .i64 b.e]] w fun r w' => r = .returned (.int .i64 (Sc.sz a b)) ∧ Below w.heap.size w w' := by
  have Z : Hid (C2 w ((w.alloc (.cells #[.bool a.neg, .string s, .int .i64 a.e] 29)).alloc (.cells #[.bool b.neg, .string t, .int .i64 b.e] 29)) a b s t) := Two3.new w _ _ _ _ _ _
  have sx : s.toList = [48] ↔ a.ds = [48] := by
    have := hs.eq (t := ⟨#[48]⟩) (ys := [48]) rfl
    rw [str48] at this
    by_cases c : a.ds = [48]
    · rw [decide_eq_true c] at this; simpa [c] using this
    · rw [decide_eq_false c] at this; simpa [c] using this
  have sy : t.toList = [48] ↔ b.ds = [48] := by
    have := ht.eq (t := ⟨#[48]⟩) (ys := [48]) rfl
    rw [str48] at this
    by_cases c : b.ds = [48]
    · rw [decide_eq_true c] at this; simpa [c] using this
    · rw [decide_eq_false c] at this; simpa [c] using this
  by_cases ka : a.ds = [48]
  · have hs0 : s = ⟨#[48]⟩ := hs.inj (by rw [ka]; rfl)
    subst hs0
    by_cases kb : b.ds = [48]
    · have ht0 : t = ⟨#[48]⟩ := ht.inj (by rw [kb]; rfl)
      subst ht0
      have E : Hid (Sc.sz a b = 0) := by show _ = _; unfold Sc.sz; rw [if_pos (.inl ka), if_pos (by rw [ka, kb])]
      clear hs ht ha hb sx sy ka kb
      go_enter Tryd.func48, Tryd.ntmps48
      go_wp2_with fail
      go_ret
      exact ⟨vret_int E.out.symm, Z.out.1⟩
    · have q1 : t.toList ≠ [48] := fun c => kb (sy.1 c)
      have q2 : (t.toList == [48]) = false := by rw [beq_eq_false_iff_ne]; exact q1
      have q3 : ¬ [48] = t.toList := fun c => q1 c.symm
      have q4 : ([48] == t.toList) = false := by rw [beq_eq_false_iff_ne]; exact q3
      have E : Hid (Sc.sz a b = -1) := by show _ = _; unfold Sc.sz; rw [if_pos (.inl ka), if_neg (by rw [ka]; exact fun c => kb c.symm), if_pos ka]
      clear hs ht ha hb sx sy ka kb
      go_enter Tryd.func48, Tryd.ntmps48
      go_wp2_with fail
      go_ret
      exact ⟨vret_int E.out.symm, Z.out.1⟩
  · have p1 : s.toList ≠ [48] := fun c => ka (sx.1 c)
    have p2 : (s.toList == [48]) = false := by rw [beq_eq_false_iff_ne]; exact p1
    by_cases kb : b.ds = [48]
    · have ht0 : t = ⟨#[48]⟩ := ht.inj (by rw [kb]; rfl)
      subst ht0
      have E : Hid (Sc.sz a b = 1) := by show _ = _; unfold Sc.sz; rw [if_pos (.inr kb), if_neg (by rw [kb]; exact ka), if_neg ka]
      clear hs ht ha hb sx sy ka kb
      go_enter Tryd.func48, Tryd.ntmps48
      go_wp2_with fail
      go_ret
      exact ⟨vret_int E.out.symm, Z.out.1⟩
    · have q1 : t.toList ≠ [48] := fun c => kb (sy.1 c)
      have q2 : (t.toList == [48]) = false := by rw [beq_eq_false_iff_ne]; exact q1
      have E : Sc.sz a b = Sc.mc a b := by unfold Sc.sz; rw [if_neg (by rintro (c | c); exact ka c; exact kb c)]
      have hsz := hs.size
      have htz := ht.size
      have ae0 := ha.e0
      have ae1 := ha.e1
      have be0 := hb.e0
      have be1 := hb.e1
      have al : (a.ds.length : Int) ≤ 281474976710657 := by have := ha.len; omega
      have bl : (b.ds.length : Int) ≤ 281474976710657 := by have := hb.len; omega
      by_cases hp : Sc.pl a = Sc.pl b
      · have E2 : Sc.sz a b = Sc.lex a.ds b.ds := by rw [E, mc_same hp]
        have hpi : b.e + (b.ds.length : Int) = a.e + (a.ds.length : Int) := by unfold Sc.pl at hp; omega
        have r1 : (b.e + (b.ds.length : Int) != a.e + (a.ds.length : Int)) = false := by simpa using hpi
        have DA : Hid (∀ (i : Nat) (p : Int) wx, p = a.e + a.ds.length - 1 - i → i ≤ 281474976710657 → Calls Tryd.prog 61 #[.agg #[.bool a.neg, .string s, .int .i64 a.e], .int .i64 p] wx fun r w' => r = .returned (.int .u8 (Sc.gd a.ds i)) ∧ Below wx.heap.size wx w') := fun i p wx h1 h2 => rdigit_any a s i p wx hs h1 ha.e0 ha.e1 ha.len h2
        have DB : Hid (∀ (i : Nat) (p : Int) wx, p = a.e + a.ds.length - 1 - i → i ≤ 281474976710657 → Calls Tryd.prog 61 #[.agg #[.bool b.neg, .string t, .int .i64 b.e], .int .i64 p] wx fun r w' => r = .returned (.int .u8 (Sc.gd b.ds i)) ∧ Below wx.heap.size wx w') := fun i p wx h1 h2 => rdigit_any b t i p wx ht (by omega) hb.e0 hb.e1 hb.len h2
        have LT : Hid (∀ i, (∀ t, t < i → Sc.gd a.ds t = Sc.gd b.ds t) → Sc.gd a.ds i < Sc.gd b.ds i → Sc.sz a b = -1) := fun i h1 h2 => by rw [E2]; exact Sc.lex_at i _ _ (fun x hx => (ha.dig x hx).1) (fun x hx => (hb.dig x hx).1) h1 h2
        have GT : Hid (∀ i, (∀ t, t < i → Sc.gd a.ds t = Sc.gd b.ds t) → Sc.gd b.ds i < Sc.gd a.ds i → Sc.sz a b = 1) := fun i h1 h2 => by
          rw [E2]
          have := Sc.lex_at i b.ds a.ds (fun x hx => (hb.dig x hx).1) (fun x hx => (ha.dig x hx).1) (fun t ht => (h1 t ht).symm) h2
          have e := Sc.lex_anti b.ds a.ds
          omega
        have EQ : Hid ((∀ t, Sc.gd a.ds t = Sc.gd b.ds t) → Sc.sz a b = 0) := fun h => by
          rw [E2, Sc.lex_zero]
          exact Sc.eq_of_gd (fun _ => ha.last ka) (fun _ => hb.last kb) h
        have GB : Hid (∀ (d : Sc.D) i, Nd d → 48 ≤ Sc.gd d.ds i ∧ Sc.gd d.ds i ≤ 57) := fun d i hd => by
          rcases Nat.lt_or_ge i d.ds.length with c | c
          · rw [Sc.gd_lt c]
            have := hd.dig (d.ds[i]) (by simp)
            simpa [Sc.pk, List.getD, c] using this
          · rw [Sc.gd_ge c]; omega
        have BA := hid (fun i => GB.out a i ha)
        have BB := hid (fun i => GB.out b i hb)
        clear hs ht ha hb sx sy ka kb E E2 hp GB
        go_enter Tryd.func48, Tryd.ntmps48
        go_wp2_with fail
        generalize (w.alloc (.cells #[.bool a.neg, .string s, .int .i64 a.e] 29)).alloc (.cells #[.bool b.neg, .string t, .int .i64 b.e] 29) = w0 at *
        go_loopw [6] (fun p wr => ∃ (i : Nat) (P : Int), p = .int .i64 P ∧ Hid (P = a.e + a.ds.length - 1 - i ∧ (i ≤ a.ds.length ∨ i ≤ b.ds.length) ∧ (∀ t, t < i → Sc.gd a.ds t = Sc.gd b.ds t) ∧ C2 w wr a b s t)) (fun p _ => match p with | .int _ P => (P + 1152921504606846976 + 1152921504606846976).toNat | _ => 0)
        case atStart => exact ⟨0, _, rfl, by omega, .inl (Nat.zero_le _), fun t ht => by omega, Z.out⟩
        case round =>
          obtain ⟨i, P, rfl, I⟩ := hrel
          obtain ⟨⟨c0, c1, c2⟩, c3, c4, c5⟩ := I.out.2.2.2.six
          have hP := I.out.1
          have hib : i ≤ 281474976710657 := by have := I.out.2.1; omega
          by_cases hi : i < a.ds.length ∨ i < b.ds.length
          · have hcond : a.e ≤ P ∨ (P < a.e ∧ b.e ≤ P) := by omega
            have A1 := hid (fun wx => DA.out i P wx hP hib)
            have B1 := hid (fun wx => DB.out i P wx hP hib)
            have xa := BA.out i
            have xb := BB.out i
            have Pb : -1152921504606846976 - 281474976710660 ≤ P ∧ P ≤ 1152921504606846976 + 281474976710660 := by omega
            have HP := hid hP
            have L1 := hid (LT.out i I.out.2.2.1)
            have G1 := hid (GT.out i I.out.2.2.1)
            have EE : Hid (Sc.gd a.ds i = Sc.gd b.ds i → ∀ t, t < i + 1 → Sc.gd a.ds t = Sc.gd b.ds t) := fun h t ht => by
              by_cases c : t = i
              · subst c; exact h
              · exact I.out.2.2.1 t (by omega)
            clear hP
            generalize Sc.gd a.ds i = ga at *
            generalize Sc.gd b.ds i = gb at *
            have tri : ga = gb ∨ (ga < gb ∧ (ga != gb) = true) ∨ (gb < ga ∧ (ga != gb) = true ∧ ¬ ga < gb) := by
              rcases Int.lt_trichotomy ga gb with h | h | h
              · exact .inr (.inl ⟨h, by simp; omega⟩)
              · exact .inl h
              · exact .inr (.inr ⟨h, by simp; omega, by omega⟩)
            rcases hcond with hc | ⟨hc, hc'⟩
            all_goals
              go_wp2_with fail
              refine (A1.out _).mono ?_
              rintro r w1 ⟨rfl, hB⟩
              have S1 := hid (I.out.2.2.2.on hB)
              clear hB c0 c1 c2 c3 c4 c5
              obtain ⟨⟨c0, c1, c2⟩, c3, c4, c5⟩ := S1.out.six
              go_wp2_with fail
              refine (B1.out _).mono ?_
              rintro r w2 ⟨rfl, hB⟩
              have S2 := hid (S1.out.on hB)
              clear hB c0 c1 c2 c3 c4 c5
              rcases tri with h | ⟨h, h'⟩ | ⟨h, h', h2⟩
              · subst h
                go_wp2_with fail
                go_roundw
                case rel => exact ⟨i + 1, _, rfl, by have := HP.out; omega, by omega, EE.out (by first | rfl | trivial), S2.out⟩
                case measure => simp; omega
              · go_wp2_with fail
                go_ret
                exact ⟨vret_int (L1.out h).symm, S2.out.1⟩
              · go_wp2_with fail
                go_ret
                exact ⟨vret_int (G1.out h).symm, S2.out.1⟩
          · have F : Hid (Sc.sz a b = 0) := EQ.out (fun t => by
              rcases Nat.lt_or_ge t i with c | c
              · exact I.out.2.2.1 t c
              · rw [Sc.gd_ge (by omega), Sc.gd_ge (by omega)])
            have h1 : P < a.e := by omega
            have h2 : P < b.e := by omega
            clear hP hi
            go_wp2_with fail
            go_ret
            exact ⟨vret_int F.out.symm, I.out.2.2.2.1⟩
      · have hpi : ¬ b.e + (b.ds.length : Int) = a.e + (a.ds.length : Int) := fun c => hp (by unfold Sc.pl; omega)
        have r1 : (b.e + (b.ds.length : Int) != a.e + (a.ds.length : Int)) = true := by simpa using hpi
        have E2 : Hid (Sc.sz a b = Sc.cmpI (a.e + a.ds.length) (b.e + b.ds.length)) := by show _ = _; rw [E, mc_apart hp]; rfl
        have CC := Sc.cmpI_c (a.e + a.ds.length) (b.e + b.ds.length)
        clear hs ht ha hb sx sy ka kb E hp
        rcases CC with ⟨h, h'⟩ | ⟨h, h'⟩ | ⟨h, h'⟩
        · have F : Hid (Sc.sz a b = -1) := by rw [E2.out]; exact h'
          clear h' E2
          go_enter Tryd.func48, Tryd.ntmps48
          go_wp2_with fail
          go_ret
          exact ⟨vret_int F.out.symm, Z.out.1⟩
        · exact absurd h.symm hpi
        · have F : Hid (Sc.sz a b = 1) := by rw [E2.out]; exact h'
          have hnl : ¬ (a.e + (a.ds.length : Int) < b.e + (b.ds.length : Int)) := by omega
          clear h' E2
          go_enter Tryd.func48, Tryd.ntmps48
          go_wp2_with fail
          go_ret
          exact ⟨vret_int F.out.symm, Z.out.1⟩
end Go.Proofs.YtjghlpkjbfaoiaaDoor
