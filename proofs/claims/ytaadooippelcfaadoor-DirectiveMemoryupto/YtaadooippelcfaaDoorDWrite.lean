/-
  directive: appendNumber, written.
-/
import Derived.Test.YtaadooippelcfaaDoorDForm
import Derived.Test.YtaadooippelcfaaDoorVPush
import Derived.Lib.AppendIntMem
namespace Go.Proofs.YtaadooippelcfaaDoor
open Go Go.RowKit Go.Deep Go.Shelf

/-- The table of powers of ten, whatever changes from base on. -/
def T10 (B : Nat) (w : World) : Prop := Lib.TabBelow Tryd.prog B w "internal/strconv.uint64pow10" .u64 Lib.pow10Tab
theorem T10.on {B : Nat} {w w' : World} (h : T10 B w) (k : Below B w w') : T10 B w' := Lib.TabBelow.on h k
theorem T10.up {B B' : Nat} {w : World} (h : T10 B w) (k : B ≤ B') : T10 B' w := fun w' hb => h w' (hb.mono k)
theorem T10.of {w : World} (h : Lib.TabIs Tryd.prog w "internal/strconv.uint64pow10" .u64 Lib.pow10Tab) : T10 w.heap.size w := by
  intro w' k
  unfold Lib.TabIs World.var? at *
  cases hg : Tryd.prog.globalNamed "internal/strconv.uint64pow10" with
  | none => rw [hg] at h; simp at h
  | some g =>
    rw [hg] at h
    simp only [Option.bind_some] at h ⊢
    have hl : g < w.heap.size := by
      rcases Nat.lt_or_ge g w.heap.size with c | c
      · exact c
      · rw [Array.getElem?_eq_none c] at h; simp at h
    rw [k.block g hl]; exact h

theorem itoa_dl {n : Int} (h : 0 ≤ n) : Lib.byteCells (Lib.itoa n) = (Sc.dl n.toNat).map (Value.int .u8) := by
  rw [Lib.itoa, if_neg (by omega), Lib.byteCells, Sc.dl, List.map_map]; rfl
theorem itoa_len {n : Int} (h : 0 ≤ n) : (Lib.itoa n).length = (Sc.dl n.toNat).length := by
  rw [Lib.itoa, if_neg (by omega), Sc.dl, List.length_map]

theorem appint_any (base : Nat) (mv : Value) (zs : List Int) (n : Int) (w : World) (hr : Row8 base w mv zs) (hb : base ≤ w.heap.size) (hz : zs.length ≤ 1000) (hT : T10 base w) (n0 : 0 ≤ n) (n1 : n ≤ 4096) :
    Calls Tryd.prog 57 #[mv, .int .i64 n, .int .i64 10] w fun e w' => ∃ mv', e = .returned mv' ∧ Row8 base w' mv' (zs ++ Sc.dl n.toNat) ∧ Below base w w' := by
  have h := Any.strconv_AppendInt_10 apLays base zs.length n (by omega) (by omega) mv (zs.map (Value.int .u8)) w hr hb (by omega) hT
  change Calls Tryd.prog 57 _ _ _ at h
  refine h.mono ?_
  rintro e w' ⟨v', rfl, h1, h2, _⟩
  refine ⟨v', rfl, ?_, h2⟩
  rw [itoa_dl n0, itoa_len n0, ← List.map_append, ← List.length_append] at h1
  exact h1

/-- What appends to a row tells. -/
def ApTold (base : Nat) (zs : List Int) (w : World) (e : Ending) (w' : World) : Prop := ∃ mv, e = .returned mv ∧ Row8 base w' mv zs ∧ Below base w w'

theorem appnum_any (base : Nat) (mv : Value) (zs : List Int) (k n : Int) (w : World) (hr : Row8 base w mv zs) (hb : base ≤ w.heap.size) (hz : zs.length ≤ 1000) (hT : T10 base w) (hn : k = 1 → 0 ≤ n ∧ n ≤ 4096) :
    Calls Tryd.prog 45 #[mv, .int .i64 k, .int .i64 n] w fun e w' => ApTold base (zs ++ Dr.wn k n) w e w' := by
  by_cases h1 : k = 1
  · subst h1
    have AI := hid (appint_any base mv zs n w hr hb hz hT (hn rfl).1 (hn rfl).2)
    clear hr hb hT hn
    go_enter Tryd.func45, Tryd.ntmps45
    go_wp2_with fail
    refine AI.out.mono ?_
    rintro e w1 ⟨mv1, rfl, r1, b1⟩
    have K : Hid (ApTold base (zs ++ Dr.wn 1 n) w (.returned mv1) w1) := ⟨mv1, rfl, r1, b1⟩
    clear r1 b1
    go_wp2_with fail
    go_ret
    exact K.out
  · by_cases h2 : k = 2
    · subst h2
      obtain ⟨mv1, w1, ap, r1, z1, b1, _⟩ := hr.push 42 (by omega) hb
      have AP := hid ap
      have K : Hid (ApTold base (zs ++ Dr.wn 2 n) w (.returned mv1) w1) := ⟨mv1, rfl, r1, b1⟩
      clear hr hb hT hn ap r1 z1 b1
      go_enter Tryd.func45, Tryd.ntmps45
      go_wp2_with (at_builtin; refine wpList_append_b rfl _ _ rfl AP.out (by rfl) (by rfl) ?_; clear AP)
      go_ret
      exact K.out
    · have K : Hid (ApTold base (zs ++ Dr.wn k n) w (.returned mv) w) := by
        refine ⟨mv, rfl, ?_, Below.refl _ _⟩
        rw [Dr.wn, if_neg h1, if_neg h2, List.append_nil]; exact hr
      clear hr hb hT hn
      go_enter Tryd.func45, Tryd.ntmps45
      go_wp2_with fail
      go_ret
      exact K.out

namespace Dr
/-- The first i marks of the flags. -/
def msn (f : Int) : Nat → List Int
  | 0 => []
  | i + 1 => msn f i ++ (if f.toNat / 2 ^ i % 2 = 1 then [nx marks i] else [])
theorem msn5 (f : Int) : msn f 5 = ms f := by
  simp [msn, ms, nx, marks]
theorem msn_len (f : Int) (i : Nat) : (msn f i).length ≤ i := by
  induction i with
  | zero => simp [msn]
  | succ i ih => rw [msn, List.length_append]; split <;> simp <;> omega
end Dr

theorem and_is (t i : Nat) (ht : t < 32) (hi : i < 5) : bits .and .i64 (t : Int) (wrap64 (2 ^ i)) = 0 ↔ ¬ t / 2 ^ i % 2 = 1 := by
  have key : ∀ (t : Fin 32) (i : Fin 5), bits .and .i64 (t.val : Int) (IntKind.i64.wrap (1 * 2 ^ i.val)) = 0 ↔ ¬ t.val / 2 ^ i.val % 2 = 1 := by decide
  have e : wrap64 (2 ^ i) = IntKind.i64.wrap (1 * 2 ^ i) := by
    rw [IntKind.wrap_i64, Int.one_mul, wrap64]
  rw [e]
  exact key ⟨t, ht⟩ ⟨i, hi⟩

/-- Bytes as a text. -/
theorem Row8.cv {base : Nat} {w : World} {mv : Value} {xs : List Int} (h : Row8 base w mv xs) (h0 : xs ≠ []) : (convert 62 9 mv).run Tryd.prog w = .ok (.string (strOfNums xs)) w := by
  obtain ⟨g, cp, rfl, hc⟩ := h.cells h0
  exact run_convert_bytes_arg (P := Tryd.prog) w 62 5 Tryd.underlying62 Tryd.underlying5 g 0 xs.length cp xs rfl hc 9 Tryd.underlying9

/-- What written tells. -/
def WrTold (p : Dr.Pc) (w : World) (e : Ending) (w' : World) : Prop := e = .returned (.string (strOfNums (Dr.wr p))) ∧ Below w.heap.size w w'

theorem dl_len4 {u : Nat} (h : u ≤ 4096) : (Sc.dl u).length ≤ 4 := by
  by_cases h1 : u < 10
  · rw [Sc.dl_small h1]; simp
  · rw [Sc.dl_big h1, List.length_append]
    by_cases h2 : u / 10 < 10
    · rw [Sc.dl_small h2]; simp
    · rw [Sc.dl_big h2, List.length_append]
      by_cases h3 : u / 10 / 10 < 10
      · rw [Sc.dl_small h3]; simp
      · rw [Sc.dl_big h3, List.length_append, Sc.dl_small (by omega)]; simp
theorem wn_len {k n l : Int} (h : Dr.num k n l) : (Dr.wn k n).length ≤ 4 := by
  rcases h with ⟨h | h, hn⟩ | ⟨h, h1, h2⟩
  · rw [h, hn]; simp [Dr.wn]
  · rw [h, hn]; simp [Dr.wn]
  · rw [h]; exact dl_len4 (by omega)
theorem ms_len (f : Int) : (Dr.ms f).length ≤ 5 := by rw [← Dr.msn5]; exact Dr.msn_len f 5

theorem written_text (s : ByteArray) (xs : List Int) (v f a b c d : Int) (w : World) (hs : Str s xs) (h : v = 0 ∨ v = 37) :
    Calls Tryd.prog 28 #[.agg #[.string s, .int .u8 v, .int .i64 f, .int .i64 a, .int .i64 b, .int .i64 c, .int .i64 d]] w fun e w' => WrTold ⟨xs, v, f, a, b, c, d⟩ w e w' := by
  have B := hid (alloc_b w (.cells #[.string s, .int .u8 v, .int .i64 f, .int .i64 a, .int .i64 b, .int .i64 c, .int .i64 d] 25))
  rcases h with rfl | rfl
  · have K : Hid (WrTold ⟨xs, 0, f, a, b, c, d⟩ w (.returned (.string s)) (w.alloc (.cells #[.string s, .int .u8 0, .int .i64 f, .int .i64 a, .int .i64 b, .int .i64 c, .int .i64 d] 25))) := ⟨by rw [str_of hs]; rfl, B.out⟩
    clear hs
    go_enter Tryd.func28, Tryd.ntmps28
    go_wp2_with fail
    go_ret
    exact K.out
  · have K : Hid (WrTold ⟨xs, 37, f, a, b, c, d⟩ w (.returned (.string ⟨#[37, 37]⟩)) (w.alloc (.cells #[.string s, .int .u8 37, .int .i64 f, .int .i64 a, .int .i64 b, .int .i64 c, .int .i64 d] 25))) := ⟨rfl, B.out⟩
    clear hs
    go_enter Tryd.func28, Tryd.ntmps28
    go_wp2_with fail
    go_ret
    exact K.out

theorem P7.belowB {B : Nat} {w w' : World} {b : Nat} {v0 v1 v2 v3 v4 v5 v6 : Value} (h : P7 w b v0 v1 v2 v3 v4 v5 v6) (hB : Below B w w') (hb : b < B) : P7 w' b v0 v1 v2 v3 v4 v5 v6 := by
  rw [P7, hB.block b hb]; exact h

/-- The state of written: the piece's box, the bytes. -/
structure WS (w : World) (v0 v1 v2 v3 v4 v5 v6 : Value) (wx : World) (mv : Value) (zs : List Int) : Prop where
  box : P7 wx w.heap.size v0 v1 v2 v3 v4 v5 v6
  bel : Below w.heap.size w wx
  siz : w.heap.size + 1 ≤ wx.heap.size
  row : Row8 (w.heap.size + 1) wx mv zs
theorem WS.on {w wx wy : World} {v0 v1 v2 v3 v4 v5 v6 mv mv' : Value} {zs zs' : List Int} (h : WS w v0 v1 v2 v3 v4 v5 v6 wx mv zs) (r : Row8 (w.heap.size + 1) wy mv' zs') (b : Below (w.heap.size + 1) wx wy) : WS w v0 v1 v2 v3 v4 v5 v6 wy mv' zs' :=
  ⟨h.box.belowB b (by omega), h.bel.trans (b.mono (by omega)), by have := h.siz; have := b.size; omega, r⟩
theorem WS.drew {w wx : World} {v0 v1 v2 v3 v4 v5 v6 mv : Value} {zs : List Int} (h : WS w v0 v1 v2 v3 v4 v5 v6 wx mv zs) (n : Nat) : WS w v0 v1 v2 v3 v4 v5 v6 (wx.drewN n) mv zs :=
  ⟨h.box, below_drewN h.bel n, h.siz, h.row⟩
theorem WS.push {w wx : World} {v0 v1 v2 v3 v4 v5 v6 mv : Value} {zs : List Int} (h : WS w v0 v1 v2 v3 v4 v5 v6 wx mv zs) (x : Int) (hz : zs.length ≤ 1000) :
    ∃ mv' w', (Builtin.append_ #[62, 62] 62 #[mv, .slice (some ⟨wx.heap.size, 0, none⟩) 1 1]).run Tryd.prog (wx.alloc (.cells #[.int .u8 x] 5)) = .ok mv' w' ∧ WS w v0 v1 v2 v3 v4 v5 v6 w' mv' (zs ++ [x]) := by
  obtain ⟨mv1, w1, ap, r1, z1, b1, _⟩ := h.row.push x (by omega) h.siz
  exact ⟨mv1, w1, ap, h.on r1 b1⟩

set_option maxRecDepth 100000 in
set_option maxHeartbeats 2000000 in
theorem written_dir (s : ByteArray) (xs : List Int) (v f a b c d : Int) (w : World) (h : Dr.isR ⟨xs, v, f, a, b, c, d⟩) (hT : T10 w.heap.size w) :
    Calls Tryd.prog 28 #[.agg #[.string s, .int .u8 v, .int .i64 f, .int .i64 a, .int .i64 b, .int .i64 c, .int .i64 d]] w fun e w' => WrTold ⟨xs, v, f, a, b, c, d⟩ w e w' := by
  obtain ⟨hv, ht, f0, f1, hw, hp⟩ := h
  obtain ⟨v0, v37, -, -, -, -, v00, v256⟩ := Dr.verb_ne hv
  have A1 := alloc_b w (.cells #[.string s, .int .u8 v, .int .i64 f, .int .i64 a, .int .i64 b, .int .i64 c, .int .i64 d] 25)
  have P1 := P7.new w (.string s) (.int .u8 v) (.int .i64 f) (.int .i64 a) (.int .i64 b) (.int .i64 c) (.int .i64 d)
  have sz1 : (w.alloc (.cells #[.string s, .int .u8 v, .int .i64 f, .int .i64 a, .int .i64 b, .int .i64 c, .int .i64 d] 25)).heap.size = w.heap.size + 1 := Array.size_push ..
  have L1 := wn_len hw
  have L2 := wn_len hp
  have L3 := ms_len f
  have WE : Hid (Dr.wr ⟨xs, v, f, a, b, c, d⟩ = (([37] ++ Dr.ms f ++ Dr.wn a b) ++ (if c ≠ 0 then [46] ++ Dr.wn c d else [])) ++ [v]) := by
    rw [Hid, Dr.wr, if_neg v0, if_neg v37]
    by_cases hc : c = 0
    · simp [hc]
    · simp [hc]
  have N1 : a = 1 → 0 ≤ b ∧ b ≤ 4096 := fun e => by
    rcases hw with ⟨q | q, _⟩ | ⟨_, q1, q2⟩ <;> simp only at * <;> omega
  have N2 : c = 1 → 0 ≤ d ∧ d ≤ 4096 := fun e => by
    rcases hp with ⟨q | q, _⟩ | ⟨_, q1, q2⟩ <;> simp only at * <;> omega
  simp only at L1 L2 v0 v37 f0 f1
  obtain ⟨t, rfl⟩ : ∃ t : Nat, f = (t : Int) := ⟨f.toNat, by omega⟩
  have t32 : t < 32 := by omega
  have W0 : Hid (WS w (.string s) (.int .u8 v) (.int .i64 t) (.int .i64 a) (.int .i64 b) (.int .i64 c) (.int .i64 d) ((w.alloc (.cells #[.string s, .int .u8 v, .int .i64 t, .int .i64 a, .int .i64 b, .int .i64 c, .int .i64 d] 25)).alloc (.cells #[.int .u8 37] 5)) (.slice (some ⟨w.heap.size + 1, 0, none⟩) 1 1) [37]) := by
    have A2 := alloc_b (w.alloc (.cells #[.string s, .int .u8 v, .int .i64 t, .int .i64 a, .int .i64 b, .int .i64 c, .int .i64 d] 25)) (.cells #[.int .u8 37] 5)
    refine ⟨P1.below A2, below_on A1 A2, by have := A2.size; omega, ?_⟩
    have q := heap_alloc_new (w.alloc (.cells #[.string s, .int .u8 v, .int .i64 t, .int .i64 a, .int .i64 b, .int .i64 c, .int .i64 d] 25)) (.cells #[.int .u8 37] 5)
    rw [sz1] at q
    exact ⟨by simp, .inr ⟨w.heap.size + 1, 1, #[.int .u8 37], rfl, Nat.le_refl _, q, by simp, by simp [maxLen], by simp, by simp⟩⟩
  have AN : Hid (∀ wx mv zs (k n : Int), WS w (.string s) (.int .u8 v) (.int .i64 t) (.int .i64 a) (.int .i64 b) (.int .i64 c) (.int .i64 d) wx mv zs → zs.length ≤ 1000 → (k = 1 → 0 ≤ n ∧ n ≤ 4096) → Calls Tryd.prog 45 #[mv, .int .i64 k, .int .i64 n] wx fun e w' => ∃ mv', e = .returned mv' ∧ WS w (.string s) (.int .u8 v) (.int .i64 t) (.int .i64 a) (.int .i64 b) (.int .i64 c) (.int .i64 d) w' mv' (zs ++ Dr.wn k n)) := by
    intro wx mv zs k n h hz hn
    refine (appnum_any (w.heap.size + 1) mv zs k n wx h.row h.siz hz ((hT.on h.bel).up (by omega)) hn).mono ?_
    rintro e w' ⟨mv', rfl, r, b⟩
    exact ⟨mv', rfl, h.on r b⟩
  have HX : ∀ (i : Nat) (h : i < (⟨#[45, 43, 32, 35, 48]⟩ : ByteArray).size), (((⟨#[45, 43, 32, 35, 48]⟩ : ByteArray)[i]'h).toNat : Int) = Dr.nx Dr.marks i := fun i h => Str.at (s := ⟨#[45, 43, 32, 35, 48]⟩) (xs := Dr.marks) rfl i h
  have FN : Hid (∀ wx mv zs, Dr.wr ⟨xs, v, t, a, b, c, d⟩ = zs → zs ≠ [] → WS w (.string s) (.int .u8 v) (.int .i64 t) (.int .i64 a) (.int .i64 b) (.int .i64 c) (.int .i64 d) wx mv zs → (convert 62 9 mv).run Tryd.prog wx = .ok (.string (strOfNums zs)) wx ∧ WrTold ⟨xs, v, t, a, b, c, d⟩ w (.returned (.string (strOfNums zs))) wx) := by
    intro wx mv zs e h0 h
    exact ⟨h.row.cv h0, by rw [e], h.bel⟩
  have V0 := v0
  have V37 := v37
  have T32 := hid t32
  have N1 := hid N1
  have N2 := hid N2
  have HX := hid HX
  have L1 := hid L1
  have L2 := hid L2
  have L3 := hid L3
  clear A1 P1 sz1 hT t32 f0 f1 v0 v37
  go_enter Tryd.func28, Tryd.ntmps28
  go_wp2_with fail
  go_loopg [3, 14] 5 (fun m bv iv wr => ∃ i : Nat, i + m = 5 ∧ iv = .int .i64 (i : Int) ∧ Hid (WS w (.string s) (.int .u8 v) (.int .i64 t) (.int .i64 a) (.int .i64 b) (.int .i64 c) (.int .i64 d) wr bv ([37] ++ Dr.msn t i)))
  case atStart => exact ⟨0, by omega, rfl, W0.out⟩
  case round =>
    obtain ⟨i, hi, rfl, I⟩ := hrel
    obtain ⟨⟨b0, b1, b2, b3, b4, b5, b6⟩, -⟩ := I.out.box.cells
    by_cases h5 : i < 5
    · have i5 : (i : Int) < 5 := by omega
      have i0 : (0 : Int) ≤ (i : Int) := by omega
      have i64 : (i : Int) ≤ 64 := by omega
      have AI := and_is t i T32.out h5
      have hx : ∀ h : i < (⟨#[45, 43, 32, 35, 48]⟩ : ByteArray).size, (((⟨#[45, 43, 32, 35, 48]⟩ : ByteArray)[i]'h).toNat : Int) = Dr.nx Dr.marks i := HX.out i
      have ml := Dr.msn_len t i
      by_cases hb : t / 2 ^ i % 2 = 1
      · have A0 : ¬ bits .and .i64 (t : Int) (wrap64 (2 ^ i)) = 0 := fun q => AI.1 q hb
        have MS : Dr.msn t (i + 1) = Dr.msn t i ++ [Dr.nx Dr.marks i] := by rw [Dr.msn, Int.toNat_natCast, if_pos hb]
        clear AI hb
        go_wp2_with fail
        go_quiet (fail)
        obtain ⟨mv', w2, ap, q⟩ := (I.out.drew nq).push (Dr.nx Dr.marks i) (by simp; omega)
        rw [List.append_assoc, ← MS] at q
        have AP := hid ap
        have Q := hid q
        clear I ap q MS ml
        generalize wr.drewN nq = w1 at *
        go_wp2_with (at_builtin; refine wpList_append_b rfl _ _ rfl AP.out (by rfl) (by rfl) ?_; clear AP)
        go_roundg (5 - (i + 1))
        case measure => omega
        case rel => exact ⟨i + 1, by omega, by go_num, Q.out⟩
      · have A0 : bits .and .i64 (t : Int) (wrap64 (2 ^ i)) = 0 := AI.2 hb
        have MS : Dr.msn t (i + 1) = Dr.msn t i := by rw [Dr.msn, Int.toNat_natCast, if_neg hb, List.append_nil]
        have I2 := hid (fun n => I.out.drew n)
        rw [← MS] at I2
        clear I AI hb hx ml MS
        go_wp2_with fail
        go_quiet (fail)
        go_wp2_with fail
        go_roundg (5 - (i + 1))
        case measure => omega
        case rel => exact ⟨i + 1, by omega, by go_num, I2.out _⟩
    · have i5 : ¬ (i : Int) < 5 := by omega
      have ie : i = 5 := by omega
      have I0 : Hid (∀ mv, WS w (.string s) (.int .u8 v) (.int .i64 t) (.int .i64 a) (.int .i64 b) (.int .i64 c) (.int .i64 d) wr mv ([37] ++ Dr.msn t i) → WS w (.string s) (.int .u8 v) (.int .i64 t) (.int .i64 a) (.int .i64 b) (.int .i64 c) (.int .i64 d) wr mv ([37] ++ Dr.ms t)) := fun mv h => by rw [ie, Dr.msn5] at h; exact h
      have I1 := hid (I0.out _ I.out)
      clear I I0 ie hi
      go_wp2_with fail
      refine (AN.out wr _ _ a b I1.out (by have := L3.out; simp; omega) N1.out).mono ?_
      rintro e w1 ⟨mv1, rfl, q1⟩
      have Q1 := hid q1
      clear q1 I1 b0 b1 b2 b3 b4 b5 b6
      obtain ⟨⟨b0, b1, b2, b3, b4, b5, b6⟩, -⟩ := Q1.out.box.cells
      have WE1 := WE.out
      by_cases hc : c = 0
      · rw [if_neg (by simp [hc]), List.append_nil] at WE1
        obtain ⟨mv2, w2, ap, q2⟩ := Q1.out.push v (by have := L3.out; have := L1.out; simp; omega)
        obtain ⟨cv, kf⟩ := FN.out _ _ _ WE1 (by simp) q2
        have AP := hid ap
        have KF := hid kf
        clear ap q2 kf Q1 WE1
        generalize strOfNums ([37] ++ Dr.ms t ++ Dr.wn a b ++ [v]) = S at *
        go_wp2_with (at_builtin; refine wpList_append_b rfl _ _ rfl AP.out (by rfl) (by rfl) ?_; clear AP)
        go_ret
        exact KF.out
      · rw [if_pos hc] at WE1
        obtain ⟨mv2, w2, ap, q2⟩ := Q1.out.push 46 (by have := L3.out; have := L1.out; simp; omega)
        have AP := hid ap
        have Q2 := hid q2
        clear ap q2
        go_wp2_with (at_builtin; refine wpList_append_b rfl _ _ rfl AP.out (by rfl) (by rfl) ?_; clear AP; clear b0 b1 b2 b3 b4 b5 b6; obtain ⟨⟨b0, b1, b2, b3, b4, b5, b6⟩, -⟩ := Q2.out.box.cells)
        refine (AN.out w2 _ _ c d Q2.out (by have := L3.out; have := L1.out; simp; omega) N2.out).mono ?_
        rintro e w3 ⟨mv3, rfl, q3⟩
        have Q3 := hid q3
        clear q3 Q2 Q1 b0 b1 b2 b3 b4 b5 b6
        obtain ⟨⟨b0, b1, b2, b3, b4, b5, b6⟩, -⟩ := Q3.out.box.cells
        obtain ⟨mv4, w4, ap, q4⟩ := Q3.out.push v (by have := L3.out; have := L1.out; have := L2.out; simp; omega)
        obtain ⟨cv, kf⟩ := FN.out _ _ _ (by rw [WE1]; simp) (by simp) q4
        have AP := hid ap
        have KF := hid kf
        clear ap q4 kf Q3 WE1
        generalize strOfNums ([37] ++ Dr.ms t ++ Dr.wn a b ++ [46] ++ Dr.wn c d ++ [v]) = S at *
        go_wp2_with (at_builtin; refine wpList_append_b rfl _ _ rfl AP.out (by rfl) (by rfl) ?_; clear AP)
        go_ret
        exact KF.out
end Go.Proofs.YtaadooippelcfaaDoor
