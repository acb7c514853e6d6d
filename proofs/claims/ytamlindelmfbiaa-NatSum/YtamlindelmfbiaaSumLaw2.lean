/-
  THE WALK OF NatSum: what is said of its lists.
-/
import Derived.Test.YtamlindelmfbiaaSumLaw1
namespace Go.Proofs.Ytamlindelmfbiaa
open Go.RowKit Go.Deep

def cnt : List Item → Nat
  | [] => 0
  | it :: r => it.n + 1 + cnt r

theorem cnt_append : ∀ a b, cnt (a ++ b) = cnt a + cnt b
  | [], b => by simp [cnt]
  | it :: r, b => by simp only [List.cons_append, cnt, cnt_append r b]; omega

theorem cnt_take_succ (its : List Item) (j : Nat) (it : Item) (h : its[j]? = some it) : cnt (its.take (j + 1)) = cnt (its.take j) + (it.n + 1) := by
  rw [List.take_add_one, h, cnt_append]
  simp [cnt]

theorem cnt_mem : ∀ (its : List Item) (it : Item), it ∈ its → it.n + 1 ≤ cnt its
  | [], _, h => by simp at h
  | x :: r, it, h => by
    simp only [cnt]
    rcases List.mem_cons.1 h with rfl | h
    · omega
    · have := cnt_mem r it h; omega

theorem len_cnt : ∀ its : List Item, its.length ≤ cnt its
  | [] => Nat.le_refl _
  | x :: r => by have := len_cnt r; simp only [List.length_cons, cnt]; omega

/-- Copies of our own, in blocks from lo to hi. -/
def Cop (w : World) (lo hi : Nat) (gs : List Item) : Prop :=
  ∀ it ∈ gs, ∃ g, it.p = some ⟨g, 0, none⟩ ∧ it.n = it.zs.length ∧ it.c = it.zs.length ∧ Own w g it.zs ∧ lo ≤ g ∧ g < hi ∧ Nm.Limbs it.zs ∧ it.zs.length ≤ 1048576

theorem Cop.nil (w : World) (lo hi : Nat) : Cop w lo hi [] := by intro it h; simp at h

theorem Cop.keep {S : Nat → Prop} {w w' : World} {lo hi : Nat} {gs : List Item} (h : Cop w lo hi gs) (k : Keep S w w') (hS : ∀ b, S b → b < lo) : Cop w' lo hi gs := by
  intro it hit
  obtain ⟨g, a, b, c, d, e, f, r⟩ := h it hit
  exact ⟨g, a, b, c, d.keep k (fun hs => by have := hS g hs; omega), e, f, r⟩

theorem Cop.hi {w : World} {lo hi hi' : Nat} {gs : List Item} (h : Cop w lo hi gs) (hh : hi ≤ hi') : Cop w lo hi' gs := by
  intro it hit
  obtain ⟨g, a, b, c, d, e, f, r⟩ := h it hit
  exact ⟨g, a, b, c, d, e, by omega, r⟩

theorem Cop.snoc {w : World} {lo hi : Nat} {gs : List Item} (h : Cop w lo hi gs) {g : Nat} {zs : List Int} (ho : Own w g zs) (h1 : lo ≤ g) (h2 : g < hi) (hl : Nm.Limbs zs) (hn : zs.length ≤ 1048576) {m : Nat} (hm : zs.length = m) : Cop w lo hi (gs ++ [⟨some ⟨g, 0, none⟩, m, m, zs⟩]) := by
  intro it hit
  rcases List.mem_append.1 hit with a | a
  · exact h it a
  · obtain rfl : it = _ := by simpa using a
    exact ⟨g, rfl, hm.symm, hm.symm, ho, h1, h2, hl, hn⟩

theorem Cop.items {w : World} {lo hi : Nat} {gs : List Item} (h : Cop w lo hi gs) : Items w gs := by
  intro it hit
  obtain ⟨g, a, b, c, d, e, f, l, n⟩ := h it hit
  rw [a]
  exact ⟨b.symm, by omega, by omega, d.lies, l⟩

/-- No two of them in one place. -/
def Diff (gs : List Item) : Prop := gs.Pairwise (fun a b => a.p ≠ b.p)

theorem Diff.snoc {w : World} {lo hi : Nat} {gs : List Item} (h : Diff gs) (hc : Cop w lo hi gs) {g : Nat} (hg : hi ≤ g) {m c : Nat} {zs : List Int} : Diff (gs ++ [⟨some ⟨g, 0, none⟩, m, c, zs⟩]) := by
  refine List.pairwise_append.2 ⟨h, List.pairwise_singleton _ _, ?_⟩
  intro a ha b hb
  obtain rfl : b = _ := by simpa using hb
  obtain ⟨g', e, _, _, _, _, f, _⟩ := hc a ha
  rw [e]
  intro he
  simp only [Option.some.injEq, Addr.mk.injEq] at he
  omega

theorem Diff.at {gs : List Item} (h : Diff gs) {j : Nat} {it x : Item} (hj : gs[j]? = some it) (hx : x ∈ gs.take j) : x.p ≠ it.p := by
  obtain ⟨i, hi⟩ := List.getElem?_of_mem hx
  rw [List.getElem?_take] at hi
  split at hi
  · rename_i hij
    obtain ⟨h1, h2⟩ := List.getElem?_eq_some_iff.1 hi
    obtain ⟨h3, h4⟩ := List.getElem?_eq_some_iff.1 hj
    have := List.pairwise_iff_getElem.1 h i j h1 h3 hij
    rw [h2, h4] at this
    exact this
  · simp at hi

theorem mapz_snoc {gs its : List Item} {j : Nat} {it : Item} (h : gs.map Item.zs = (its.take j).map Item.zs) (hj : its[j]? = some it) (x : Item) (hx : x.zs = it.zs) : (gs ++ [x]).map Item.zs = (its.take (j + 1)).map Item.zs := by
  rw [List.take_add_one, hj, List.map_append, List.map_append, h]
  simp [hx]

theorem zs_at {gs its : List Item} {j : Nat} {x it : Item} (h : gs.map Item.zs = its.map Item.zs) (hx : gs[j]? = some x) (hi : its[j]? = some it) : x.zs = it.zs := by
  have := congrArg (fun l => l[j]?) h
  simpa [hx, hi] using this

theorem rev_at {its : List Item} {n j t : Nat} {it : Item} (hn : its.length = n) (ht : t + 1 + j = n) (h : its[t]? = some it) : its.reverse[j]? = some it := by
  rw [List.getElem?_reverse (by omega), hn, show n - 1 - j = t by omega]
  exact h

theorem Keep.setCell {w w' : World} {g i : Nat} (h : Keep (· = g) w w') (v : Value) : Keep (· = g) w (w'.setCell ⟨g, i, none⟩ v) := by
  refine ⟨h.os, h.tape, h.output, by simpa [World.setCell] using h.size, fun b hb hs => ?_⟩
  rw [← h.block b hb hs]
  simp only [World.setCell, Array.getElem?_modify]
  rw [if_neg (fun e => hs e.symm)]

/-- The blocks of the first k copies. -/
def WS (gs : List Item) (k : Nat) : Nat → Prop := fun x => ∃ it ∈ gs.take k, it.p = some ⟨x, 0, none⟩

theorem WS.bd {w : World} {lo hi k : Nat} {gs : List Item} (h : Cop w lo hi gs) {x : Nat} (hx : WS gs k x) : lo ≤ x ∧ x < hi := by
  obtain ⟨it, h1, h2⟩ := hx
  obtain ⟨g, a, _, _, _, e, f, _⟩ := h it (List.mem_of_mem_take h1)
  rw [a] at h2
  simp only [Option.some.injEq, Addr.mk.injEq] at h2
  omega

theorem WS.next {gs : List Item} {k : Nat} {it : Item} {g : Nat} (hk : gs[k]? = some it) (hp : it.p = some ⟨g, 0, none⟩) : WS gs (k + 1) g :=
  ⟨it, by rw [List.take_add_one, hk]; simp, hp⟩

theorem WS.step {gs : List Item} {k x : Nat} (h : WS gs k x) : WS gs (k + 1) x := by
  obtain ⟨it, h1, h2⟩ := h
  exact ⟨it, by rw [List.take_add_one]; exact List.mem_append_left _ h1, h2⟩

theorem WS.not {gs : List Item} {k : Nat} {it : Item} {g : Nat} (hd : Diff gs) (hk : gs[k]? = some it) (hp : it.p = some ⟨g, 0, none⟩) : ¬ WS gs k g := by
  rintro ⟨x, h1, h2⟩
  exact hd.at hk h1 (h2.trans hp.symm)

theorem Arg.drewN {w : World} {p : Option Addr} {n cap : Nat} {zs : List Int} (h : Arg w p n cap zs) (k : Nat) : Arg (w.drewN k) p n cap zs := h

theorem bigs_of_eq {a b : List Item} (h : a.map Item.zs = b.map Item.zs) : Bigs a ↔ Bigs b := bigs_congr (fun zs => by rw [h]) (tot_congr h)

theorem out_of {P P' : Prop} {T T' f : Int} {os : List Int} (h : Out P T f os) (hp : P ↔ P') (ht : T = T') : Out P' T' f os := by
  rw [Out, ← propext hp, ← ht]
  exact h

theorem lt_of_out {its : List Item} {os : List Int} (h : Out (Bigs its) (tot its) 0 os) : tot its < Nm.pw 4096 ∧ Nm.tsize os = os.length ∧ Nm.val os = tot its := by
  rcases h with ⟨_, h, _⟩ | ⟨h, _, a, b⟩
  · simp at h
  · refine ⟨?_, a, b⟩
    rcases Int.lt_or_le (tot its) (Nm.pw 4096) with c | c
    · exact c
    · exact absurd (Or.inr c) h

theorem tot_take_le {w : World} {its : List Item} (hi : Items w its) (k : Nat) : tot (its.take k) ≤ tot its := by
  have e : tot its = tot (its.take k) + tot (its.drop k) := by rw [← tot_append, List.take_append_drop]
  have h : ∀ l : List Item, Items w l → 0 ≤ tot l := by
    intro l
    induction l with
    | nil => intro _; simp [tot]
    | cons x r ih =>
      intro h
      have h1 := ih (fun y hy => h y (List.mem_cons_of_mem _ hy))
      have h2 := (Nm.val_bd x.zs (h x List.mem_cons_self).2.2.2.2).1
      simp only [tot]
      omega
  have := h (its.drop k) (fun x hx => hi x (List.mem_of_mem_drop hx))
  omega
end Go.Proofs.Ytamlindelmfbiaa
