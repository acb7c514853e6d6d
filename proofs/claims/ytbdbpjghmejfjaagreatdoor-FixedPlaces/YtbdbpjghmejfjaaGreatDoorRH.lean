/-
  Texts put together: FRdN, FRep, FKept, FMore, FZeros, FClosed, FApi.
-/
import Derived.Test.YtbdbpjghmejfjaaGreatDoorRG
import Derived.Test.YtbdbpjghmejfjaaGreatDoorNStr
import Derived.Shelf.Strings.Repeat
import Derived.Laws.Concat
import Derived.Test.YtbdbpjghmejfjaaGreatDoorNMem
import Derived.Test.YtbdbpjghmejfjaaGreatDoorRF
import Derived.BigQuiet
namespace Go.Proofs.YtbdbpjghmejfjaaGreatDoor
open Go Go.RowKit Go.Deep
namespace Fx

theorem rd_keep {xs : List Int} {k : Nat} (hd : Digs xs) (hk : k ≤ xs.length) (h : up xs k = false) : rd xs k = xs.take k := by
  have dk : Digs (xs.take k) := fun d g => hd d (List.mem_of_mem_take g)
  have b := dv_bd dk
  have lk : (xs.take k).length = k := by rw [List.length_take]; omega
  rw [lk] at b
  have r : rn xs k = dv (xs.take k) := by unfold rn; rw [h]; simp
  exact (rd_of dk r.symm (by rw [if_neg (by omega), lk])).symm
theorem rd_more {xs ds : List Int} {k : Nat} {c : Bool} (hd : Digs xs) (hk : k ≤ xs.length) (h : UpIs (xs.take k) (xs.drop k) false true) (R : Raised (xs.take k) ds c) : (if c = true then 49 :: ds else ds) = rd xs k := by
  have lk : (xs.take k).length = k := by rw [List.length_take]; omega
  obtain ⟨r1, r2, r3⟩ := R
  rw [lk] at r2 r3
  exact rd_round hd hk ⟨r1, r2, true, h, by rw [if_pos (rfl : true = true)]; exact r3⟩
theorem up_full (xs : List Int) : up xs xs.length = false := by
  unfold up
  rw [decide_eq_false_iff_not]
  rw [Nat.sub_self, List.drop_length, show dv [] = 0 from rfl]
  simp
theorem rd_self {xs : List Int} (hd : Digs xs) : rd xs xs.length = xs := by
  rw [rd_keep hd (Nat.le_refl _) (up_full xs), List.take_length]
theorem up_of {xs : List Int} {k : Nat} {u : Bool} (h : UpIs (xs.take k) (xs.drop k) false u) : up xs k = u := (up_is h).symm
end Fx

theorem own_str {g k cap : Nat} {W : World} {fs : List Int} (o : OwnF W g fs) (hl : k ≤ fs.length) (hd : Digs (fs.take k)) :
    ∃ s, Str s (fs.take k) ∧ (convert 70 9 (.slice (some ⟨g, 0, none⟩) k cap)).run Tryz.prog W = .ok (.string s) W := by
  have hlen : (fs.take k).length = k := by simp; omega
  refine ⟨strOfNums (fs.take k), Str.of_nums (fun x hx => by have := hd x hx; omega), run_convert_bytes_arg (P := Tryz.prog) W 70 5 Tryz.underlying70 Tryz.underlying5 g 0 k cap (fs.take k) hlen (fun i hi => ?_) 9 Tryz.underlying9⟩
  rw [Nat.zero_add, o.cell i (by omega)]
  simp [List.getD, hi]

theorem Str.ne' {s : ByteArray} {xs : List Int} (h : Str s xs) (hx : xs ≠ []) : (s.toList == []) = false ∧ s.toList.isEmpty = false := by
  have e1 : s.toList ≠ [] := by
    intro c
    apply hx
    rw [ByteArray.toList_eq] at c
    rw [← h, c]
    rfl
  exact ⟨by rw [beq_eq_false_iff_ne]; exact e1, by rw [List.isEmpty_eq_false_iff]; exact e1⟩

/-- []byte(s): the block, its cells, and the run. -/
theorem bytes_made {s : ByteArray} {xs : List Int} (hs : Str s xs) (w : World) :
    ∃ (cap : Nat) (es : List Int) (w1 : World), (convert 9 70 (.string s)).run Tryz.prog w = .ok (.slice (some ⟨w.heap.size, 0, none⟩) s.size cap) w1 ∧ OwnF w1 w.heap.size es ∧ es.take xs.length = xs ∧ xs.length ≤ es.length ∧ Below w.heap.size w w1 := by
  have CV := run_bytes_of_string (P := Tryz.prog) w 9 70 5 s Tryz.underlying9 Tryz.underlying70 Tryz.underlying5
  obtain ⟨cap, hcap⟩ : ∃ cap, grownCap w s.size 0 5 = cap := ⟨_, rfl⟩
  rw [hcap] at CV
  refine ⟨cap, xs ++ List.replicate (cap - xs.length) 0, _, CV, bytes_own hs w cap, ?_, by simp, (below_drewN (Below.refl _ _) 1).alloc (Nat.le_refl _) _⟩
  rw [List.take_append_of_le_length (by omega), List.take_length]
end Go.Proofs.YtbdbpjghmejfjaaGreatDoor

namespace Go.Proofs.YtbdbpjghmejfjaaGreatDoor
open Go Go.RowKit Go.Deep Go.Shelf

def repLays_ren : Go.Shelf.Ren := ⟨fun | 105 => 28 | 212 => 51 | 99 => 52 | 165 => 53 | 166 => 54 | 170 => 55 | 169 => 56 | 263 => 80 | 264 => 81 | 206 => 82 | 240 => 83 | 241 => 84 | 276 => 102 | 277 => 103 | n => n, fun | 9 => 9 | 3 => 3 | 4 => 4 | 20 => 20 | 0 => 0 | 46 => 62 | 109 => 78 | 5 => 5 | 72 => 83 | 76 => 87 | 51 => 110 | 146 => 111 | 53 => 24 | 148 => 94 | 70 => 81 | 37 => 70 | 75 => 86 | 127 => 114 | 164 => 127 | 80 => 90 | n => n, fun | n => n⟩
theorem repLays : Go.Proofs.Lays.n105 Tryz.prog repLays_ren := {
  mixed := by kernel_rfl
  f99 := Tryz.func52.trans (congrArg some (by kernel_rfl))
  f105 := Tryz.func28.trans (congrArg some (by kernel_rfl))
  f165 := Tryz.func53.trans (congrArg some (by kernel_rfl))
  f166 := Tryz.func54.trans (congrArg some (by kernel_rfl))
  f169 := Tryz.func56.trans (congrArg some (by kernel_rfl))
  f170 := Tryz.func55.trans (congrArg some (by kernel_rfl))
  f206 := Tryz.func82.trans (congrArg some (by kernel_rfl))
  f212 := Tryz.func51.trans (congrArg some (by kernel_rfl))
  f240 := Tryz.func83.trans (congrArg some (by kernel_rfl))
  f241 := Tryz.func84.trans (congrArg some (by kernel_rfl))
  f263 := Tryz.func80.trans (congrArg some (by kernel_rfl))
  f264 := Tryz.func81.trans (congrArg some (by kernel_rfl))
  f276 := Tryz.func102.trans (congrArg some (by kernel_rfl))
  f277 := Tryz.func103.trans (congrArg some (by kernel_rfl))
  t0 := Tryz.underlying0
  a0 := Tryz.isAgg0
  z0 := Tryz.sizeOf0
  v0 := Tryz.zeroValue0
  t3 := Tryz.underlying3
  a3 := Tryz.isAgg3
  z3 := Tryz.sizeOf3
  v3 := Tryz.zeroValue3
  t4 := Tryz.underlying4
  a4 := Tryz.isAgg4
  z4 := Tryz.sizeOf4
  v4 := Tryz.zeroValue4
  t5 := Tryz.underlying5
  a5 := Tryz.isAgg5
  z5 := Tryz.sizeOf5
  v5 := Tryz.zeroValue5
  t9 := Tryz.underlying9
  a9 := Tryz.isAgg9
  z9 := Tryz.sizeOf9
  v9 := Tryz.zeroValue9
  t20 := Tryz.underlying20
  a20 := Tryz.isAgg20
  z20 := Tryz.sizeOf20
  v20 := Tryz.zeroValue20
  t37 := Tryz.underlying70
  a37 := Tryz.isAgg70
  z37 := Tryz.sizeOf70
  v37 := Tryz.zeroValue70
  t46 := Tryz.underlying62
  a46 := Tryz.isAgg62
  z46 := Tryz.sizeOf62
  v46 := Tryz.zeroValue62
  t51 := Tryz.underlying110
  a51 := Tryz.isAgg110
  z51 := Tryz.sizeOf110
  v51 := Tryz.zeroValue110
  t53 := Tryz.underlying24
  a53 := Tryz.isAgg24
  z53 := Tryz.sizeOf24
  v53 := Tryz.zeroValue24
  t70 := Tryz.underlying81
  a70 := Tryz.isAgg81
  z70 := Tryz.sizeOf81
  v70 := Tryz.zeroValue81
  t72 := Tryz.underlying83
  a72 := Tryz.isAgg83
  z72 := Tryz.sizeOf83
  v72 := Tryz.zeroValue83
  t75 := Tryz.underlying86
  a75 := Tryz.isAgg86
  z75 := Tryz.sizeOf86
  v75 := Tryz.zeroValue86
  t76 := Tryz.underlying87
  a76 := Tryz.isAgg87
  z76 := Tryz.sizeOf87
  v76 := Tryz.zeroValue87
  t109 := Tryz.underlying78
  a109 := Tryz.isAgg78
  z109 := Tryz.sizeOf78
  v109 := Tryz.zeroValue78
  t127 := Tryz.underlying114
  a127 := Tryz.isAgg114
  z127 := Tryz.sizeOf114
  v127 := Tryz.zeroValue114
  t146 := Tryz.underlying111
  a146 := Tryz.isAgg111
  z146 := Tryz.sizeOf111
  v146 := Tryz.zeroValue111
  t148 := Tryz.underlying94
  a148 := Tryz.isAgg94
  z148 := Tryz.sizeOf94
  v148 := Tryz.zeroValue94
  t164 := Tryz.underlying127
  a164 := Tryz.isAgg127
  z164 := Tryz.sizeOf127
  v164 := Tryz.zeroValue127 }
theorem repExtra : Go.Proofs.Builder.Extra Tryz.prog repLays_ren where
  sizeBuilder := by kernel_rfl
  liesBuilder := by kernel_rfl
  t5 := Tryz.underlying5
  a5 := Tryz.isAgg5
  z5 := Tryz.sizeOf5
  v5 := Tryz.zeroValue5
  infoByte := by kernel_rfl
  cellsByte := by kernel_rfl
  sizeByte := by kernel_rfl
  neB5 := by decide

theorem repeat_str (c : Nat) : Str ⟨(Lib.repeatL (#[48] : Array UInt8).toList c).toArray⟩ (List.replicate c 48) := by
  unfold Str
  simp only
  induction c with
  | zero => rfl
  | succ c ih =>
    rw [Lib.repeatL, List.replicate_succ]
    simpa using ih

theorem frepeat_any (c : Nat) (w : World) (hc : c ≤ 100000) :
    Calls Tryz.prog 28 #[.string ⟨#[48]⟩, .int .i64 (c : Int)] w fun e w' => ∃ s, e = .returned (.string s) ∧ Str s (List.replicate c 48) ∧ Below w.heap.size w w' := by
  refine (Any.strings_Repeat repLays repExtra ⟨#[48]⟩ c w (by omega) (by have : (⟨#[48]⟩ : ByteArray).size = 1 := rfl; rw [this]; omega)).mono ?_
  rintro e w' ⟨rfl, hB⟩
  exact ⟨_, rfl, repeat_str c, hB⟩
end Go.Proofs.YtbdbpjghmejfjaaGreatDoor

namespace Go.Proofs.YtbdbpjghmejfjaaGreatDoor
open Go Go.RowKit Go.Deep

theorem Str.app {a b : ByteArray} {xs ys : List Int} (h : Str a xs) (k : Str b ys) : Str (a ++ b) (xs ++ ys) := by
  unfold Str at *
  rw [← h, ← k, ← List.map_append]
  simp

theorem str_one : Str ⟨#[49]⟩ [49] := rfl

set_option maxRecDepth 100000 in
set_option maxHeartbeats 2000000 in
theorem kept_any (s : ByteArray) (xs : List Int) (c : Int) (w : World) (hs : Str s xs) (hd : Digs xs) (h0 : xs ≠ []) (hl : xs.length ≤ 3000) (hc : c ≤ 10000) :
    Calls Tryz.prog 27 #[.string s, .int .i64 c] w fun e w' => ∃ s', e = .returned (.string s') ∧ Str s' (Fx.kp xs c) ∧ Below w.heap.size w w' := by
  by_cases hn : c < 0
  · have F : Hid (Str ⟨#[]⟩ (Fx.kp xs c)) := by rw [Fx.kp_neg hn]; rfl
    clear hs hd h0 hl
    go_enter Tryz.func27, Tryz.ntmps27
    go_wp2_with fail
    go_ret
    exact ⟨_, rfl, F.out, Below.refl _ _⟩
  · obtain ⟨k, rfl⟩ := Int.eq_ofNat_of_zero_le (show 0 ≤ c by omega)
    have R := hid (round_any s xs k false w hs h0 hd (by omega) (by omega) (by omega))
    by_cases hg : xs.length ≤ k
    · obtain ⟨z, hz⟩ : ∃ z : Nat, (k : Int) - (s.size : Int) = (z : Int) := ⟨k - s.size, by rw [hs.size]; omega⟩
      have RE := hid (fun wx : World => frepeat_any z wx (by omega))
      have szb : (s.size : Int) ≤ 3000 := by rw [hs.size]; omega
      have kb : (k : Int) ≤ 10000 := hc
      have F : Hid (∀ b : ByteArray, Str b (List.replicate z 48) → Str (s ++ b) (Fx.kp xs k)) := by
        intro b hb
        rw [Fx.kp_full hg, show k - xs.length = z by have := hs.size; omega]
        exact hs.app hb
      have RT : Hid (∀ e, RoundTold s xs k false e → e = .returned (.tuple #[.string s, .bool false, .int .i64 0])) := fun e h => h.1 (by omega)
      clear hs hd h0 hl hg hn hc
      go_enter Tryz.func27, Tryz.ntmps27
      go_wp2_with fail
      refine R.out.mono ?_
      rintro e w1 ⟨h, B1⟩
      obtain rfl := RT.out e h
      have HB := hid B1
      clear h B1 RT R
      go_wp2_with fail
      refine (RE.out _).mono ?_
      rintro e w2 ⟨b, rfl, hb, B2⟩
      have K := hid (And.intro (F.out b hb) (HB.out.trans (B2.mono HB.out.size)))
      have szc : (b.size : Int) ≤ 10000 := by rw [hb.size, List.length_replicate]; omega
      clear hb B2 RE F HB
      go_wp2_with fail
      go_ret
      exact ⟨_, rfl, K.out.1, K.out.2⟩
    · have hk : k < xs.length := by omega
      have RE := hid (fun wx : World => frepeat_any 0 wx (by omega))
      have kb : (k : Int) ≤ 10000 := hc
      have RT : Hid (∀ e, RoundTold s xs k false e → ∃ s' c, e = .returned (.tuple #[.string s', .bool c, .int .i64 0]) ∧ s'.size = k ∧ Hid (∀ b, Str b [] → if c = true then Str (⟨#[49]⟩ ++ (s' ++ b)) (Fx.kp xs k) else Str (s' ++ b) (Fx.kp xs k))) := by
        intro e h
        obtain ⟨s', ds, c, rfl, h1, h2⟩ := h.2 (by omega)
        rw [Int.toNat_natCast] at h2
        refine ⟨s', c, rfl, by rw [h1.size, h2.2.1], fun b hb => ?_⟩
        have q := Fx.rd_round hd (by omega) h2
        rw [Fx.kp_cut hk, ← q]
        have a := h1.app hb
        rw [List.append_nil] at a
        cases c
        · exact a
        · exact str_one.app a
      clear hs hd h0 hl hg hn hc hk
      go_enter Tryz.func27, Tryz.ntmps27
      go_wp2_with fail
      refine R.out.mono ?_
      rintro e w1 ⟨h, B1⟩
      obtain ⟨s', c, rfl, hz, F⟩ := RT.out e h
      have HB := hid B1
      clear h B1 RT R
      go_wp2_with fail
      refine (RE.out _).mono ?_
      rintro e w2 ⟨b, rfl, hb, B2⟩
      have K := hid (F.out b hb)
      have HB2 := hid (HB.out.trans (B2.mono HB.out.size))
      have szc : b.size = 0 := by rw [hb.size]; rfl
      clear hb B2 RE F HB
      cases c
      · go_wp2_with fail
        go_ret
        exact ⟨_, rfl, K.out, HB2.out⟩
      · go_wp2_with fail
        go_ret
        exact ⟨_, rfl, K.out, HB2.out⟩
end Go.Proofs.YtbdbpjghmejfjaaGreatDoor

namespace Go.Proofs.YtbdbpjghmejfjaaGreatDoor
open Go Go.RowKit Go.Deep

set_option maxRecDepth 100000 in
set_option maxHeartbeats 4000000 in
theorem rmore_any (s : ByteArray) (xs : List Int) (w : World) (hs : Str s xs) (hd : Digs xs) (hl : xs.length ≤ 20000) :
    Calls Tryz.prog 70 #[.string s] w fun e w' => ∃ s' ds c, e = .returned (.string s') ∧ Raised xs ds c ∧ Str s' (if c = true then 49 :: ds else ds) ∧ Below w.heap.size w w' := by
  obtain ⟨cap, es, w1, CV, OF, est, esl, BW⟩ := bytes_made hs w
  obtain ⟨k, hk⟩ : ∃ k, xs.length = k := ⟨_, rfl⟩
  have hsz : s.size = k := by rw [hs.size, hk]
  rw [hsz] at CV
  rw [hk] at est esl hl
  obtain ⟨g, HG⟩ : ∃ g, Hid (w.heap.size = g) := ⟨_, rfl⟩
  rw [HG.out] at OF CV
  have hkb : (k : Int) ≤ 20000 := by omega
  have HBW := hid BW
  have HOF := hid OF
  have HESL := hid esl
  have RA : Hid (∀ (h : ∀ i, 0 ≤ i → i < k → es.getD i 0 = 57), Raised xs ((put es 0 (List.replicate k 48)).take k) true) := fun h => by
    have := raised_all esl h
    rw [est] at this
    exact this
  have RB : Hid (∀ (u : Nat) (y : Int), u < k → es.getD u 0 = y → y ≠ 57 → (∀ i, u + 1 ≤ i → i < k → es.getD i 0 = 57) → Raised xs ((put es u ((y + 1) :: List.replicate (k - (u + 1)) 48)).take k) false) := fun u y hu hy h9 h => by
    have := raised_at esl hu hy h9 (by rw [est]; exact hd) h
    rw [est] at this
    exact this
  have CONV : Hid (∀ (W : World) (fs : List Int), OwnF W g fs → k ≤ fs.length → Digs (fs.take k) → ∃ s', Str s' (fs.take k) ∧ (convert 70 9 (.slice (some ⟨g, 0, none⟩) k cap)).run Tryz.prog W = .ok (.string s') W) := fun W fs o h1 h2 => own_str o h1 h2
  have DG : Hid (∀ u, u < k → 48 ≤ es.getD u 0 ∧ es.getD u 0 ≤ 57) := fun u hu => by
    have e : es.getD u 0 = xs.getD u 0 := by
      conv => rhs; rw [← est]
      rw [Nm.getD_take, if_pos hu]
    rw [e]
    exact digs_at hd u (by omega)
  clear OF est esl BW hs hd hk
  go_enter Tryz.func70, Tryz.ntmps70
  go_wp2_with fail
  go_loopg [4] k (fun j i wr => i = .int .i64 ((j : Int) - 1) ∧ j ≤ k ∧ Hid (OwnF wr g (put es j (List.replicate (k - j) 48)) ∧ (∀ i, j ≤ i → i < k → es.getD i 0 = 57) ∧ Below w.heap.size w wr))
  case atStart => exact ⟨rfl, Nat.le_refl _, by rw [Nat.sub_self]; simpa [put_nil] using HOF.out, fun i h1 h2 => by omega, HBW.out⟩
  case round =>
    obtain ⟨rfl, hj, I⟩ := hrel
    cases gk with
    | zero =>
      have R := RA.out I.out.2.1
      obtain ⟨s', hs', cv'⟩ := CONV.out _ _ I.out.1 (by rw [put_length _ _ _ (by simp; have := HESL.out; omega)]; exact HESL.out) R.1
      have hsz2 : (s'.size : Int) ≤ 20000 := by rw [hs'.size, List.length_take]; omega
      have K := hid (And.intro R (And.intro (show Str (⟨#[49]⟩ ++ s') (49 :: _) from str_one.app hs') I.out.2.2))
      clear I R hs' RA RB CONV HBW HOF
      go_wp2_with fail
      go_ret
      exact ⟨_, _, true, rfl, K.out.1, K.out.2.1, K.out.2.2⟩
    | succ u =>
      rw [show ((u + 1 : Nat) : Int) - 1 = (u : Int) by omega]
      have hu : (u : Int) < (k : Int) := by omega
      have hl : (put es (u + 1) (List.replicate (k - (u + 1)) 48)).length = es.length := put_length _ _ _ (by simp; have := HESL.out; omega)
      obtain ⟨x9, X⟩ : ∃ x9, Hid (es.getD u 0 = x9) := ⟨_, rfl⟩
      have hx9 : wr.cell? ⟨g, u, none⟩ = some (.int .u8 x9) := by
        rw [I.out.1.cell u (by rw [hl]; have := HESL.out; omega), ← X.out]
        simp [put, List.getD, List.getElem?_append_left (show u < (es.take (u + 1)).length by simp; have := HESL.out; omega)]
      have hf := I.out.1.free u (by rw [hl]; have := HESL.out; omega)
      have hxd := DG.out u (by omega)
      rw [X.out] at hxd
      obtain ⟨hx0, hx1⟩ := hxd
      by_cases h9 : x9 = 57
      · have F : Hid (OwnF (wr.setCell ⟨g, u, none⟩ (.int .u8 48)) g (put es u (List.replicate (k - u) 48)) ∧ (∀ i, u ≤ i → i < k → es.getD i 0 = 57) ∧ Below w.heap.size w (wr.setCell ⟨g, u, none⟩ (.int .u8 48))) := by
          refine ⟨?_, fun i h1 h2 => ?_, I.out.2.2.setCell (p := ⟨g, u, none⟩) (Nat.le_of_eq HG.out) _⟩
          · have := I.out.1.set u 48
            rw [put_head _ _ _ _ (by simp; have := HESL.out; omega), ← List.replicate_succ, show k - (u + 1) + 1 = k - u by omega] at this
            exact this
          · by_cases e : i = u
            · subst e; rw [X.out]; exact h9
            · exact I.out.2.1 i (by omega) h2
        subst h9
        clear I hl
        go_wp2_with fail
        go_roundg u
        case measure => omega
        case rel => exact ⟨by go_num, by omega, F.out⟩
      · have h9' : (x9 == 57) = false := by rw [beq_eq_false_iff_ne]; exact h9
        have R := RB.out u x9 (by omega) X.out h9 I.out.2.1
        have o := I.out.1.set u (x9 + 1)
        rw [put_head _ _ _ _ (by simp; have := HESL.out; omega)] at o
        have B := hid (I.out.2.2.setCell (p := ⟨g, u, none⟩) (Nat.le_of_eq HG.out) (.int .u8 (x9 + 1)))
        obtain ⟨s', hs', cv'⟩ := CONV.out _ _ o (by rw [put_length _ _ _ (by simp; have := HESL.out; omega)]; exact HESL.out) R.1
        have K := hid (And.intro R hs')
        clear I hl R o hs' RA RB CONV HBW HOF
        go_wp2_with fail
        go_ret
        exact ⟨_, _, false, rfl, K.out.1, K.out.2, B.out⟩

theorem rest_ne {x : Int} {rest : List Int} (hd : Digs rest) (hr : rest ≠ []) (hl : (x :: rest).getD rest.length 0 ≠ 48) : dv rest ≠ 0 := by
  intro c
  have h := (dv_zero_iff hd).1 c
  obtain ⟨j, hj⟩ : ∃ j, rest.length = j + 1 := ⟨rest.length - 1, by have := List.length_pos_iff.2 hr; omega⟩
  apply hl
  rw [hj]
  have := h j (by omega)
  simpa using this

set_option maxRecDepth 100000 in
set_option maxHeartbeats 4000000 in
theorem rcut_any (s : ByteArray) (xs : List Int) (k : Nat) (w : World) (hs : Str s xs) (hd : Digs xs) (hk : k ≤ xs.length) (hl : xs.length ≤ 20000) (hlast : xs.getD (xs.length - 1) 0 ≠ 48) :
    Calls Tryz.prog 45 #[.string s, .int .i64 (k : Int)] w fun e w' => ∃ s', e = .returned (.string s') ∧ Str s' (Fx.rd xs k) ∧ Below w.heap.size w w' := by
  obtain ⟨n, hn⟩ : ∃ n, s.size = n := ⟨_, rfl⟩
  have hxn : xs.length = n := by rw [← hs.size, hn]
  have ST := hs.extract 0 k
  rw [List.drop_zero, Nat.sub_zero] at ST
  have SD := hs.extract k n
  rw [List.take_of_length_le (by simp; omega)] at SD
  have lk : (xs.take k).length = k := by rw [List.length_take]; omega
  have z1 : (s.extract 0 k).size = k := by rw [ST.size, lk]
  have z2 : (s.extract k n).size = n - k := by rw [SD.size, List.length_drop, hxn]
  have dk : Digs (xs.take k) := fun d h => hd d (List.mem_of_mem_take h)
  have dd : Digs (xs.drop k) := fun d h => hd d (List.mem_of_mem_drop h)
  have hki : (k : Int) ≤ (n : Int) := by omega
  have hnb : (n : Int) ≤ 20000 := by omega
  have MO := hid (fun wx : World => rmore_any _ _ wx ST dk (by omega))
  have KEEP : Hid (Fx.up xs k = false → Str (s.extract 0 k) (Fx.rd xs k)) := fun h => by rw [Fx.rd_keep hd hk h]; exact ST
  have MORE : Hid (UpIs (xs.take k) (xs.drop k) false true → ∀ s' ds c, Raised (xs.take k) ds c → Str s' (if c = true then 49 :: ds else ds) → Str s' (Fx.rd xs k)) := by
    intro h s' ds c R h'
    rw [← Fx.rd_more hd hk h R]
    exact h'
  by_cases hm : k = n
  · have e1 : s.extract k n = ⟨#[]⟩ := SD.inj (by rw [hm, ← hxn, List.drop_length]; rfl)
    have F := hid (KEEP.out (by rw [hm, ← hxn]; exact Fx.up_full xs))
    clear dk dd hs hd hk hl ST SD z2 lk MORE KEEP hm hlast MO
    go_enter Tryz.func45, Tryz.ntmps45
    go_upto_region 3 with fail
    generalize s.extract k n = r at *
    subst e1
    go_wp2_with fail
    go_ret
    exact ⟨_, rfl, F.out, Below.refl _ _⟩
  · obtain ⟨x, rest, hxr⟩ : ∃ x rest, xs.drop k = x :: rest := by
      rcases hc : xs.drop k with _ | ⟨x, rest⟩
      · have := congrArg List.length hc
        simp at this
        omega
      · exact ⟨x, rest, rfl⟩
    obtain ⟨m, hmm⟩ : ∃ m, n - k = m := ⟨_, rfl⟩
    have rl : rest.length + 1 = m := by
      have := congrArg List.length hxr
      simp at this
      omega
    rw [hmm] at z2
    obtain ⟨n1, n2⟩ := SD.ne' (by rw [hxr]; simp)
    rw [hxr] at SD dd MORE
    have xd := dd x (by simp)
    have rdd : Digs rest := fun d h => dd d (by simp [h])
    have hx : ∀ h : 0 < (s.extract k n).size, (((s.extract k n)[0]'h).toNat : Int) = x := fun h => by rw [SD.at 0 h]; rfl
    have mb : (m : Int) ≤ 20000 := by omega
    have m0 : (0 : Int) < (m : Int) := by omega
    have RN : rest ≠ [] → dv rest ≠ 0 := fun h => rest_ne (x := x) rdd h (by
      rw [← hxr]
      have e : (xs.drop k).getD rest.length 0 = xs.getD (xs.length - 1) 0 := by
        simp [List.getD, List.getElem?_drop, show k + rest.length = xs.length - 1 by omega]
      rw [e]
      exact hlast)
    rcases (show x < 53 ∨ 53 < x ∨ (x = 53 ∧ 1 < m) ∨ (x = 53 ∧ m = 1) by omega) with h5 | h5 | ⟨h5, hm1⟩ | ⟨h5, hm1⟩
    · have F := hid (KEEP.out (Fx.up_of (by rw [hxr]; exact up_under rfl dd h5)))
      clear dk dd hs hd hk hl ST SD lk MORE KEEP hxr MO hlast RN rdd
      go_enter Tryz.func45, Tryz.ntmps45
      go_wp2_with fail
      go_ret
      exact ⟨_, rfl, F.out, Below.refl _ _⟩
    · have U := hid (MORE.out (up_over rfl dd h5))
      have h5n : ¬ x < 53 := by omega
      clear dk dd hs hd hk hl ST SD lk MORE KEEP hxr hlast RN rdd
      generalize Fx.rd xs k = RDX at *
      generalize xs.take k = XT at *
      go_enter Tryz.func45, Tryz.ntmps45
      go_wp2_with fail
      refine (MO.out _).mono ?_
      rintro e w1 ⟨s', ds, c, rfl, R, h', B1⟩
      have K := hid (And.intro (U.out s' ds c R h') B1)
      clear R h' B1 MO U
      go_wp2_with fail
      go_ret
      exact ⟨_, rfl, K.out.1, K.out.2⟩
    · have U := hid (MORE.out (up_rest (by rw [h5]) dd (RN (by intro c; rw [c] at rl; simp at rl; omega))))
      have h5n : ¬ x < 53 := by omega
      have h5m : ¬ 53 < x := by omega
      have hm1i : (1 : Int) < (m : Int) := by omega
      clear h5
      clear dk dd hs hd hk hl ST SD lk MORE KEEP hxr hlast RN rdd
      generalize Fx.rd xs k = RDX at *
      generalize xs.take k = XT at *
      go_enter Tryz.func45, Tryz.ntmps45
      go_wp2_with fail
      refine (MO.out _).mono ?_
      rintro e w1 ⟨s', ds, c, rfl, R, h', B1⟩
      have K := hid (And.intro (U.out s' ds c R h') B1)
      clear R h' B1 MO U
      go_wp2_with fail
      go_ret
      exact ⟨_, rfl, K.out.1, K.out.2⟩
    · have r0 : rest = [] := by rcases rest with _ | ⟨a, b⟩; rfl; simp at rl; omega
      have d0 : dv rest = 0 := by rw [r0]; rfl
      have h5n : ¬ x < 53 := by omega
      have h5m : ¬ 53 < x := by omega
      have hm1i : ¬ (1 : Int) < (m : Int) := by omega
      have b0 := (dv_bd dk).1
      rcases Nat.eq_zero_or_pos k with hk0 | hk0
      · have F := hid (KEEP.out (Fx.up_of (by rw [hxr]; exact up_half (by rw [h5]) dd d0 (by rw [hk0]; rfl))))
        have hk0i : ¬ (0 : Int) < (k : Int) := by omega
        clear dk dd hs hd hk hl ST SD lk MORE KEEP hxr MO hlast RN rdd h5 hk0
        go_enter Tryz.func45, Tryz.ntmps45
        go_wp2_with fail
        go_ret
        exact ⟨_, rfl, F.out, Below.refl _ _⟩
      · obtain ⟨t, ht⟩ : ∃ t, k = t + 1 := ⟨k - 1, by omega⟩
        have la := dv_last (ds := xs.take k) (n := t) (by rw [lk]; exact ht)
        have yb := digs_at dk t (by omega)
        have hyt : ∀ h : t < (s.extract 0 k).size, (((s.extract 0 k)[t]'h).toNat : Int) = (xs.take k).getD t 0 := fun h => ST.at t h
        obtain ⟨y, hy⟩ : ∃ y, (xs.take k).getD t 0 = y := ⟨_, rfl⟩
        rw [hy] at la yb hyt
        obtain ⟨y0, y1⟩ := yb
        have hk0i : (0 : Int) < (k : Int) := by omega
        have hkt : (k : Int) - 1 = (t : Int) := by omega
        have htk : (t : Int) < (k : Int) := by omega
        have t0 : (0 : Int) ≤ (t : Int) := by omega
        by_cases ho : (y - 48) % 2 = 1
        · have U := hid (MORE.out (up_half (by rw [h5]) dd d0 (by rw [decide_eq_true (show dv (xs.take k) % 2 = 1 by omega)])))
          clear h5 la ht hk0
          clear dk dd hs hd hk hl ST SD lk MORE KEEP hxr hlast RN rdd hy
          generalize Fx.rd xs k = RDX at *
          generalize xs.take k = XT at *
          go_enter Tryz.func45, Tryz.ntmps45
          go_wp2_with fail
          refine (MO.out _).mono ?_
          rintro e w1 ⟨s', ds, c, rfl, R, h', B1⟩
          have K := hid (And.intro (U.out s' ds c R h') B1)
          clear R h' B1 MO U
          go_wp2_with fail
          go_ret
          exact ⟨_, rfl, K.out.1, K.out.2⟩
        · have ho' : ((y - 48) % 2 == 1) = false := by rw [beq_eq_false_iff_ne]; exact ho
          have F := hid (KEEP.out (Fx.up_of (by rw [hxr]; exact up_half (by rw [h5]) dd d0 (by rw [decide_eq_false (show ¬ dv (xs.take k) % 2 = 1 by omega)]))))
          clear dk dd hs hd hk hl ST SD lk MORE KEEP hxr MO hlast RN rdd h5 la ht hk0 hy
          go_enter Tryz.func45, Tryz.ntmps45
          go_wp2_with fail
          go_ret
          exact ⟨_, rfl, F.out, Below.refl _ _⟩
end Go.Proofs.YtbdbpjghmejfjaaGreatDoor

namespace Go.Proofs.YtbdbpjghmejfjaaGreatDoor
open Go Go.RowKit Go.Deep

theorem zset (k u : Nat) : (List.replicate k (48 : Int) ++ List.replicate (u + 1) 0).set k 48 = List.replicate (k + 1) 48 ++ List.replicate u 0 := by
  rw [List.set_append_right _ _ (by simp), List.length_replicate, Nat.sub_self, List.replicate_succ, List.set_cons_zero, List.replicate_succ', List.append_assoc]
  rfl

theorem OwnB.str {w : World} {g cap : Nat} {zs : List Int} (h : OwnB w g zs) (hz : ∀ x ∈ zs, 0 ≤ x ∧ x < 256) (n : Nat) (hn : zs.length = n) :
    ∃ s, Str s zs ∧ (convert 70 9 (.slice (some ⟨g, 0, none⟩) n cap)).run Tryz.prog w = .ok (.string s) w :=
  ⟨strOfNums zs, Str.of_nums hz, run_convert_bytes_arg (P := Tryz.prog) w 70 5 Tryz.underlying70 Tryz.underlying5 g 0 n cap zs hn (fun i hi => by
    rw [Nat.zero_add, h.cell i (by omega)]) 9 Tryz.underlying9⟩

set_option maxRecDepth 100000 in
set_option maxHeartbeats 1000000 in
theorem lzeros_any (n : Nat) (w : World) (hn : n ≤ 100000) :
    Calls Tryz.prog 20 #[.int .i64 (n : Int)] w fun e w' => ∃ s, e = .returned (.string s) ∧ Str s (List.replicate n 48) ∧ Below w.heap.size w w' := by
  have mk := make8 n (by omega) w
  have bm : Below w.heap.size w (w.alloc (.cells (madeCells #[.int .u8 0] n) 5)) := (Below.refl _ _).alloc (Nat.le_refl _) _
  have ob : OwnB (w.alloc (.cells (madeCells #[.int .u8 0] n) 5)) w.heap.size (List.replicate n 0) := by rw [made_zero8]; exact OwnB.alloc w _
  obtain ⟨w1, hw1⟩ : ∃ w1, w.alloc (.cells (madeCells #[.int .u8 0] n) 5) = w1 := ⟨_, rfl⟩
  rw [hw1] at mk bm ob
  have HBM := hid bm
  have HOB := hid ob
  have hni : (n : Int) ≤ 100000 := by omega
  obtain ⟨g, HG⟩ : ∃ g, Hid (w.heap.size = g) := ⟨_, rfl⟩
  rw [HG.out] at mk HOB
  clear bm ob hw1 hn
  go_enter Tryz.func20, Tryz.ntmps20
  go_wp2_with fail
  go_loopg [4] n (fun j i wr => ∃ k : Nat, k + j = n ∧ i = .int .i64 (k : Int) ∧ Hid (OwnB wr g (List.replicate k 48 ++ List.replicate j 0) ∧ Below w.heap.size w wr))
  case atStart => exact ⟨0, by omega, rfl, by simpa using HOB.out, HBM.out⟩
  case round =>
    obtain ⟨k, hk, rfl, I⟩ := hrel
    cases gk with
    | zero =>
      obtain ⟨s, hs, cv⟩ := I.out.1.str (cap := n) (fun x hx => by simp at hx; omega) n (by simp; omega)
      have F : Hid (Str s (List.replicate n 48)) := by
        have := hs
        rw [List.replicate_zero, List.append_nil, show k = n by omega] at this
        exact this
      have B := hid I.out.2
      have hki : ¬ (k : Int) < (n : Int) := by omega
      clear hs I HBM HOB
      go_wp2_with fail
      go_ret
      exact ⟨s, rfl, F.out, B.out⟩
    | succ u =>
      have hki : (k : Int) < (n : Int) := by omega
      have hc := I.out.1.cell k (by simp)
      have hf := I.out.1.free k
      have F : Hid (OwnB (wr.setCell ⟨g, k, none⟩ (.int .u8 48)) g (List.replicate (k + 1) 48 ++ List.replicate u 0) ∧ Below w.heap.size w (wr.setCell ⟨g, k, none⟩ (.int .u8 48))) := by
        refine ⟨?_, I.out.2.setCell (p := ⟨g, k, none⟩) (Nat.le_of_eq HG.out) _⟩
        have := I.out.1.set k 48
        rw [zset] at this
        exact this
      generalize (List.replicate k (48 : Int) ++ List.replicate (u + 1) 0).getD k 0 = x at *
      clear I HBM HOB
      go_wp2_with fail
      go_roundg u
      case measure => omega
      case rel => exact ⟨k + 1, by omega, by go_num, F.out⟩

set_option maxRecDepth 100000 in
set_option maxHeartbeats 1000000 in
theorem rzeros_any (n : Nat) (w : World) (hn : n ≤ 100000) :
    Calls Tryz.prog 44 #[.int .i64 (n : Int)] w fun e w' => ∃ s, e = .returned (.string s) ∧ Str s (List.replicate n 48) ∧ Below w.heap.size w w' := by
  have mk := make8 n (by omega) w
  have bm : Below w.heap.size w (w.alloc (.cells (madeCells #[.int .u8 0] n) 5)) := (Below.refl _ _).alloc (Nat.le_refl _) _
  have ob : OwnB (w.alloc (.cells (madeCells #[.int .u8 0] n) 5)) w.heap.size (List.replicate n 0) := by rw [made_zero8]; exact OwnB.alloc w _
  obtain ⟨w1, hw1⟩ : ∃ w1, w.alloc (.cells (madeCells #[.int .u8 0] n) 5) = w1 := ⟨_, rfl⟩
  rw [hw1] at mk bm ob
  have HBM := hid bm
  have HOB := hid ob
  have hni : (n : Int) ≤ 100000 := by omega
  obtain ⟨g, HG⟩ : ∃ g, Hid (w.heap.size = g) := ⟨_, rfl⟩
  rw [HG.out] at mk HOB
  clear bm ob hw1 hn
  go_enter Tryz.func44, Tryz.ntmps44
  go_wp2_with fail
  go_loopg [4] n (fun j i wr => ∃ k : Nat, k + j = n ∧ i = .int .i64 (k : Int) ∧ Hid (OwnB wr g (List.replicate k 48 ++ List.replicate j 0) ∧ Below w.heap.size w wr))
  case atStart => exact ⟨0, by omega, rfl, by simpa using HOB.out, HBM.out⟩
  case round =>
    obtain ⟨k, hk, rfl, I⟩ := hrel
    cases gk with
    | zero =>
      obtain ⟨s, hs, cv⟩ := I.out.1.str (cap := n) (fun x hx => by simp at hx; omega) n (by simp; omega)
      have F : Hid (Str s (List.replicate n 48)) := by
        have := hs
        rw [List.replicate_zero, List.append_nil, show k = n by omega] at this
        exact this
      have B := hid I.out.2
      have hki : ¬ (k : Int) < (n : Int) := by omega
      clear hs I HBM HOB
      go_wp2_with fail
      go_ret
      exact ⟨s, rfl, F.out, B.out⟩
    | succ u =>
      have hki : (k : Int) < (n : Int) := by omega
      have hc := I.out.1.cell k (by simp)
      have hf := I.out.1.free k
      have F : Hid (OwnB (wr.setCell ⟨g, k, none⟩ (.int .u8 48)) g (List.replicate (k + 1) 48 ++ List.replicate u 0) ∧ Below w.heap.size w (wr.setCell ⟨g, k, none⟩ (.int .u8 48))) := by
        refine ⟨?_, I.out.2.setCell (p := ⟨g, k, none⟩) (Nat.le_of_eq HG.out) _⟩
        have := I.out.1.set k 48
        rw [zset] at this
        exact this
      generalize (List.replicate k (48 : Int) ++ List.replicate (u + 1) 0).getD k 0 = x at *
      clear I HBM HOB
      go_wp2_with fail
      go_roundg u
      case measure => omega
      case rel => exact ⟨k + 1, by omega, by go_num, F.out⟩
end Go.Proofs.YtbdbpjghmejfjaaGreatDoor

namespace Go.Proofs.YtbdbpjghmejfjaaGreatDoor
open Go Go.RowKit Go.Deep
namespace Fx

theorem X_of {d : Int} {xs : List Int} {E : Int} (m0 : 0 ≤ Ie.dm d) (h : Ex (Ie.dm d) (Ie.de d) xs E) : X d = xs ∧ P d = E := by
  obtain ⟨a, b⟩ := h.is m0
  exact ⟨a.symm, b.symm⟩

theorem dig_c {T : Int} {xs : List Int} (hd : Digs xs) (hv : dv xs = T) (hh : xs.getD 0 0 ≠ 48) (hn : xs ≠ []) (hl : xs.length ≤ 3000) : ∃ s, DigT T s xs := by
  refine ⟨⟨(xs.map (fun x => UInt8.ofNat x.toNat)).toArray⟩, ?_, hd, hv, hh, hn, hl⟩
  unfold Str
  simp only [List.map_map]
  conv => rhs; rw [← List.map_id xs]
  apply List.map_congr_left
  intro x hx
  have := hd x hx
  simp
  omega

theorem c125 : X 4593671619917905920 = [49, 50, 53] ∧ P 4593671619917905920 = -3 := by
  obtain ⟨s, D⟩ := dig_c (T := 1 * 5 ^ 3) (xs := [49, 50, 53]) (fun d h => by simp at h; omega) (by decide) (by decide) (by decide) (by decide)
  have m : Ie.dm 4593671619917905920 = 4503599627370496 := by decide
  have e : Ie.de 4593671619917905920 = -55 := by decide
  refine X_of (by rw [m]; omega) ?_
  rw [m, e]
  exact ex_odd (t := 52) (q := 1) (n := 3) (by decide) (by omega) (by decide) (by omega) (by decide) D

theorem c995 : X 4636702106982547456 = [57, 57, 53] ∧ P 4636702106982547456 = -1 := by
  obtain ⟨s, D⟩ := dig_c (T := 199 * 5 ^ 1) (xs := [57, 57, 53]) (fun d h => by simp at h; omega) (by decide) (by decide) (by decide) (by decide)
  have m : Ie.dm 4636702106982547456 = 7001690045677568 := by decide
  have e : Ie.de 4636702106982547456 = -46 := by decide
  refine X_of (by rw [m]; omega) ?_
  rw [m, e]
  exact ex_odd (t := 45) (q := 199) (n := 1) (by decide) (by omega) (by decide) (by omega) (by decide) D

theorem c9995 : X 4652002910794678272 = [57, 57, 57, 53] ∧ P 4652002910794678272 = -1 := by
  obtain ⟨s, D⟩ := dig_c (T := 1999 * 5 ^ 1) (xs := [57, 57, 57, 53]) (fun d h => by simp at h; omega) (by decide) (by decide) (by decide) (by decide)
  have m : Ie.dm 4652002910794678272 = 8791694975696896 := by decide
  have e : Ie.de 4652002910794678272 = -43 := by decide
  refine X_of (by rw [m]; omega) ?_
  rw [m, e]
  exact ex_odd (t := 42) (q := 1999) (n := 1) (by decide) (by omega) (by decide) (by omega) (by decide) D

theorem c85 : X 4620974692658839552 = [56, 53] ∧ P 4620974692658839552 = -1 := by
  obtain ⟨s, D⟩ := dig_c (T := 17 * 5 ^ 1) (xs := [56, 53]) (fun d h => by simp at h; omega) (by decide) (by decide) (by decide) (by decide)
  have m : Ie.dm 4620974692658839552 = 4785074604081152 := by decide
  have e : Ie.de 4620974692658839552 = -49 := by decide
  refine X_of (by rw [m]; omega) ?_
  rw [m, e]
  exact ex_odd (t := 48) (q := 17) (n := 1) (by decide) (by omega) (by decide) (by omega) (by decide) D

theorem c1200 : X 13876364508114452480 = [49, 50] ∧ P 13876364508114452480 = 2 := by
  obtain ⟨s, D⟩ := dig_c (T := 75 * 2 ^ 4) (xs := [49, 50, 48, 48]) (fun d h => by simp at h; omega) (by decide) (by decide) (by decide) (by decide)
  have m : Ie.dm 13876364508114452480 = 5277655813324800 := by decide
  have e : Ie.de 13876364508114452480 = -42 := by decide
  refine X_of (by rw [m]; omega) ?_
  rw [m, e]
  exact ex_whole (t := 46) (q := 75) (n := 4) (k := 2) (xs := [49, 50, 48, 48]) (by decide) (by omega) (by omega) (by decide) D (by decide) (fun i h1 h2 => by
    match i, h1, h2 with
    | 2, _, _ => rfl
    | 3, _, _ => rfl
    | i + 4, _, h2 => simp at h2; omega) (fun _ => by decide)
end Fx
end Go.Proofs.YtbdbpjghmejfjaaGreatDoor

namespace Go.Proofs.YtbdbpjghmejfjaaGreatDoor
open Go Go.RowKit Go.Deep

namespace Fx
/-- The error. -/
def rf (d n l : Int) : Int := if Ie.fnt d = true then (if n < l ∨ 4200 < n then 1 else 0) else 5
theorem rf_zero {d n l : Int} : rf d n l = 0 ↔ Ie.fnt d = true ∧ l ≤ n ∧ n ≤ 4200 := by
  unfold rf
  by_cases h : Ie.fnt d = true
  · rw [if_pos h]
    by_cases g : n < l ∨ 4200 < n
    · rw [if_pos g]; omega
    · rw [if_neg g]; simp [h]; omega
  · rw [if_neg h]; simp [h]
/-- The whole number of Places, written. -/
noncomputable def W (d : Int) (n : Nat) : List Int := List.replicate (n + 1 - (kp (X d) ((X d).length + P d + n)).length) 48 ++ kp (X d) ((X d).length + P d + n)
noncomputable def pA (d n : Int) : List Int := if rf d n 0 = 0 then (W d n.toNat).take ((W d n.toNat).length - n.toNat) else []
noncomputable def pB (d n : Int) : List Int := if rf d n 0 = 0 then (W d n.toNat).drop ((W d n.toNat).length - n.toNat) else []
/-- What Figures answers. -/
noncomputable def gS (d n : Int) : List Int := if rf d n 1 = 0 then (kp (X d) n).take n.toNat else []
noncomputable def gK (d n : Int) : Int := if rf d n 1 = 0 then (X d).length - 1 + P d + (if n < (kp (X d) n).length then 1 else 0) else 0

theorem W_len (d : Int) (n : Nat) : n + 1 ≤ (W d n).length := by
  unfold W
  rw [List.length_append, List.length_replicate]
  omega
theorem kp_len_le {xs : List Int} {c : Int} {m : Nat} (hc : c ≤ m) (hx : xs.length ≤ m) : (kp xs c).length ≤ m + 1 := by
  unfold kp
  split
  · simp
  · split
    · rw [List.length_append, List.length_replicate]; omega
    · rw [rd_len]; split <;> omega
end Fx

set_option maxRecDepth 100000 in
theorem refused_any (d n l : Int) (w : World) (h0 : 0 ≤ d) (h1 : d < 18446744073709551616) :
    Calls Tryz.prog 25 #[.int .u64 d, .int .i64 n, .int .i64 l] w fun e w' => e = .returned (.int .i64 (Fx.rf d n l)) ∧ w' = w := by
  have FN := hid (fun wx : World => ffinite_any d wx h0 h1)
  have E : Hid (Fx.rf d n l = if Ie.fnt d = true then (if n < l ∨ 4200 < n then 1 else 0) else 5) := rfl
  generalize Ie.fnt d = f at *
  clear h0 h1
  cases f
  · have E2 : Hid (Fx.rf d n l = 5) := E.out
    clear E
    go_enter Tryz.func25, Tryz.ntmps25
    go_wp2_with fail
    refine (FN.out _).mono ?_
    rintro e w' ⟨rfl, rfl⟩
    go_wp2_with fail
    go_ret
    exact ⟨i_retI E2.out.symm, rfl⟩
  · have E2 : Hid (Fx.rf d n l = if n < l ∨ 4200 < n then 1 else 0) := E.out
    clear E
    rcases (show n < l ∨ (l ≤ n ∧ 4200 < n) ∨ (l ≤ n ∧ n ≤ 4200) by omega) with h | ⟨h, h'⟩ | ⟨h, h'⟩
    · have E3 : Hid (Fx.rf d n l = 1) := by rw [Hid, E2.out, if_pos (.inl h)]
      clear E2
      go_enter Tryz.func25, Tryz.ntmps25
      go_wp2_with fail
      refine (FN.out _).mono ?_
      rintro e w' ⟨rfl, rfl⟩
      go_wp2_with fail
      go_ret
      exact ⟨i_retI E3.out.symm, rfl⟩
    · have E3 : Hid (Fx.rf d n l = 1) := by rw [Hid, E2.out, if_pos (.inr h')]
      clear E2
      go_enter Tryz.func25, Tryz.ntmps25
      go_wp2_with fail
      refine (FN.out _).mono ?_
      rintro e w' ⟨rfl, rfl⟩
      go_wp2_with fail
      go_ret
      exact ⟨i_retI E3.out.symm, rfl⟩
    · have E3 : Hid (Fx.rf d n l = 0) := by rw [Hid, E2.out, if_neg (by omega)]
      clear E2
      go_enter Tryz.func25, Tryz.ntmps25
      go_wp2_with fail
      refine (FN.out _).mono ?_
      rintro e w' ⟨rfl, rfl⟩
      go_wp2_with fail
      go_ret
      exact ⟨i_retI E3.out.symm, rfl⟩

def PlacesTold (d n : Int) (w : World) (e : Ending) (w' : World) : Prop :=
  ∃ s t, e = .returned (.tuple #[.string s, .string t, .int .i64 (Fx.rf d n 0)]) ∧ Str s (Fx.pA d n) ∧ Str t (Fx.pB d n) ∧ Below w.heap.size w w'
def FiguresTold (d n : Int) (w : World) (e : Ending) (w' : World) : Prop :=
  ∃ s, e = .returned (.tuple #[.string s, .int .i64 (Fx.gK d n), .int .i64 (Fx.rf d n 1)]) ∧ Str s (Fx.gS d n) ∧ Below w.heap.size w w'

set_option maxRecDepth 100000 in
set_option maxHeartbeats 4000000 in
theorem places_any (d n : Int) (w : World) (hT : Tab w) (h0 : 0 ≤ d) (h1 : d < 18446744073709551616) :
    Calls Tryz.prog 9 #[.int .u64 d, .int .i64 n] w fun e w' => PlacesTold d n w e w' := by
  have RF := hid (refused_any d n 0 w h0 h1)
  by_cases hr : Fx.rf d n 0 = 0
  · obtain ⟨hf, hn0, hn1⟩ := Fx.rf_zero.1 hr
    obtain ⟨k, rfl⟩ := Int.eq_ofNat_of_zero_le hn0
    have EX := exact_any d w hT h0 h1 (of_decide_eq_true hf)
    unfold ExTold at EX
    rw [← Fx.X, ← Fx.P] at EX
    have HE := hid EX
    obtain ⟨r1, r2, r3, r4, r5⟩ := Fx.X_room hf
    have KE : Hid (∀ (wx : World) (s : ByteArray), Str s (Fx.X d) → Calls Tryz.prog 27 #[.string s, .int .i64 ((Fx.X d).length + Fx.P d + k)] wx fun e w' => ∃ s', e = .returned (.string s') ∧ Str s' (Fx.kp (Fx.X d) ((Fx.X d).length + Fx.P d + k)) ∧ Below wx.heap.size wx w') :=
      fun wx s hs => kept_any s _ _ wx hs (Fx.X_digs hf).1 (Fx.X_digs hf).2 (by omega) (by omega)
    have LB : (Fx.kp (Fx.X d) ((Fx.X d).length + Fx.P d + k)).length ≤ 6000 := by
      have := Fx.kp_len_le (xs := Fx.X d) (c := (Fx.X d).length + Fx.P d + k) (m := 5999) (by omega) (by omega)
      omega
    have G : Hid (∀ (w' : World) (a b : ByteArray), Str a (List.replicate (k + 1 - (Fx.kp (Fx.X d) ((Fx.X d).length + Fx.P d + k)).length) 48) → Str b (Fx.kp (Fx.X d) ((Fx.X d).length + Fx.P d + k)) → Below w.heap.size w w' → k ≤ (a ++ b).size ∧ (a ++ b).size ≤ 12000 ∧ PlacesTold d k w (.returned (.tuple #[.string ((a ++ b).extract 0 ((a ++ b).size - k)), .string ((a ++ b).extract ((a ++ b).size - k) (a ++ b).size), .int .i64 0])) w') := by
      intro w' a b ha hb hB
      have hab : Str (a ++ b) (Fx.W d k) := ha.app hb
      have hz := hab.size
      have hwl := Fx.W_len d k
      have e1 := hab.extract 0 ((a ++ b).size - k)
      have e2 := hab.extract ((a ++ b).size - k) (a ++ b).size
      rw [List.drop_zero, Nat.sub_zero] at e1
      rw [List.take_of_length_le (by rw [List.length_drop, hz]; omega)] at e2
      rw [hz] at e1 e2
      refine ⟨by omega, ?_, ⟨_, _, by rw [hr], ?_, ?_, hB⟩⟩
      · rw [hz]
        unfold Fx.W
        rw [List.length_append, List.length_replicate]
        omega
      · rw [Fx.pA, if_pos hr, Int.toNat_natCast, hz]; exact e1
      · rw [Fx.pB, if_pos hr, Int.toNat_natCast, hz]; exact e2
    rw [hr] at RF
    obtain ⟨L, hL⟩ : ∃ L, (Fx.X d).length = L := ⟨_, rfl⟩
    have LS : Hid (∀ s, Str s (Fx.X d) → s.size = L) := fun s hs => by rw [hs.size, hL]
    rw [hL] at KE LB G r1 r2 r4 r5
    generalize Fx.X d = X at *
    generalize Fx.P d = Q at *
    obtain ⟨c, hc⟩ : ∃ c, (L : Int) + Q + k = c := ⟨_, rfl⟩
    rw [hc] at KE LB G
    generalize hkp : Fx.kp X c = V at *
    clear hkp hf hr EX hT h0 h1 hL
    obtain ⟨v, hv⟩ : ∃ v, V.length = v := ⟨_, rfl⟩
    have VS : Hid (∀ s, Str s V → s.size = v) := fun s hs => by rw [hs.size, hv]
    rw [hv] at LB G
    clear hv
    obtain ⟨z, hz⟩ : ∃ z, k + 1 - v = z := ⟨_, rfl⟩
    rw [hz] at G
    have MX : max ((k : Int) + 1 - (v : Int)) 0 = (z : Int) := by omega
    have RE := hid (fun wx : World => frepeat_any z wx (by omega))
    have kb : (k : Int) ≤ 4200 := hn1
    have vb : (v : Int) ≤ 6000 := by omega
    clear hn0 hn1 LB
    go_enter Tryz.func9, Tryz.ntmps9
    go_wp2_with fail
    refine RF.out.mono ?_
    rintro e wz ⟨rfl, hz⟩
    replace hz := hz.symm
    subst hz
    go_wp2_with fail
    refine HE.out.mono ?_
    rintro e w1 ⟨s, rfl, hs, B1⟩
    have hsz := LS.out s hs
    have K1 := hid (KE.out w1 s hs)
    have HB := hid B1
    clear B1 hs KE HE LS RF
    go_wp2_with fail
    refine K1.out.mono ?_
    rintro e w2 ⟨t, rfl, ht, B2⟩
    have htz := VS.out t ht
    have HT2 := hid ht
    have HB2 := hid (HB.out.trans (B2.mono HB.out.size))
    clear B2 ht K1 HB VS
    go_wp2_with fail
    refine (RE.out _).mono ?_
    rintro e w3 ⟨a, rfl, ha, B3⟩
    have haz : a.size = z := by rw [ha.size, List.length_replicate]
    obtain ⟨g1, g2, -⟩ := G.out _ a t ha HT2.out (HB2.out.trans (B3.mono HB2.out.size))
    have HG := hid (fun q : Nat => (G.out _ a t ha HT2.out (below_drewN (HB2.out.trans (B3.mono HB2.out.size)) q)).2.2)
    clear ha B3 G HB2 RE
    go_upto_region 7 with fail
    generalize a ++ t = ab at *
    obtain ⟨N, hN⟩ : ∃ N, ab.size = N := ⟨_, rfl⟩
    rw [hN] at HG g1 g2
    obtain ⟨j, hj⟩ : ∃ j, N - k = j := ⟨_, rfl⟩
    rw [hj] at HG
    have nj : (N : Int) - (k : Int) = (j : Int) := by omega
    have jN : (j : Int) ≤ (N : Int) := by omega
    have nb : (N : Int) ≤ 12000 := by omega
    clear hj hz MX hc
    go_quiet (fail)
    go_wp2_with fail
    go_ret3
    exact HG.out _
  · have F : Hid (PlacesTold d n w (.returned (.tuple #[.string ⟨#[]⟩, .string ⟨#[]⟩, .int .i64 (Fx.rf d n 0)])) w) := ⟨_, _, rfl, by rw [Fx.pA, if_neg hr]; rfl, by rw [Fx.pB, if_neg hr]; rfl, Below.refl _ _⟩
    have hr' : (Fx.rf d n 0 == 0) = false := by rw [beq_eq_false_iff_ne]; exact hr
    have hr2 : (Fx.rf d n 0 != 0) = true := by simp [bne, hr']
    generalize Fx.rf d n 0 = r at *
    clear hr h0 h1 hT
    go_enter Tryz.func9, Tryz.ntmps9
    go_wp2_with fail
    refine RF.out.mono ?_
    rintro e wz ⟨rfl, hz⟩
    replace hz := hz.symm
    subst hz
    go_wp2_with fail
    go_ret3
    exact F.out

set_option maxRecDepth 100000 in
set_option maxHeartbeats 4000000 in
theorem figures_any (d n : Int) (w : World) (hT : Tab w) (h0 : 0 ≤ d) (h1 : d < 18446744073709551616) :
    Calls Tryz.prog 19 #[.int .u64 d, .int .i64 n] w fun e w' => FiguresTold d n w e w' := by
  have RF := hid (refused_any d n 1 w h0 h1)
  by_cases hr : Fx.rf d n 1 = 0
  · obtain ⟨hf, hn0, hn1⟩ := Fx.rf_zero.1 hr
    obtain ⟨k, rfl⟩ := Int.eq_ofNat_of_zero_le (show 0 ≤ n by omega)
    have EX := exact_any d w hT h0 h1 (of_decide_eq_true hf)
    unfold ExTold at EX
    rw [← Fx.X, ← Fx.P] at EX
    have HE := hid EX
    obtain ⟨r1, r2, r3, r4, r5⟩ := Fx.X_room hf
    have KE : Hid (∀ (wx : World) (s : ByteArray), Str s (Fx.X d) → Calls Tryz.prog 27 #[.string s, .int .i64 (k : Int)] wx fun e w' => ∃ s', e = .returned (.string s') ∧ Str s' (Fx.kp (Fx.X d) k) ∧ Below wx.heap.size wx w') :=
      fun wx s hs => kept_any s _ _ wx hs (Fx.X_digs hf).1 (Fx.X_digs hf).2 (by omega) (by omega)
    have LB : (Fx.kp (Fx.X d) k).length ≤ 6000 := by
      have := Fx.kp_len_le (xs := Fx.X d) (c := k) (m := 5999) (by omega) (by omega)
      omega
    have GA : Hid (∀ (w' : World) (b : ByteArray), Str b (Fx.kp (Fx.X d) k) → Below w.heap.size w w' → k < (Fx.kp (Fx.X d) k).length → FiguresTold d k w (.returned (.tuple #[.string (b.extract 0 k), .int .i64 ((Fx.X d).length - 1 + Fx.P d + 1), .int .i64 0])) w') := by
      intro w' b hb hB hl
      have e1 := hb.extract 0 k
      rw [List.drop_zero, Nat.sub_zero] at e1
      refine ⟨_, by rw [Fx.gK, if_pos hr, if_pos (by omega), hr], ?_, hB⟩
      rw [Fx.gS, if_pos hr, Int.toNat_natCast]
      exact e1
    have GB : Hid (∀ (w' : World) (b : ByteArray), Str b (Fx.kp (Fx.X d) k) → Below w.heap.size w w' → ¬ k < (Fx.kp (Fx.X d) k).length → FiguresTold d k w (.returned (.tuple #[.string b, .int .i64 ((Fx.X d).length - 1 + Fx.P d), .int .i64 0])) w') := by
      intro w' b hb hB hl
      refine ⟨_, by rw [Fx.gK, if_pos hr, if_neg (by omega), Int.add_zero, hr], ?_, hB⟩
      rw [Fx.gS, if_pos hr, Int.toNat_natCast, List.take_of_length_le (by omega)]
      exact hb
    rw [hr] at RF
    obtain ⟨L, hL⟩ : ∃ L, (Fx.X d).length = L := ⟨_, rfl⟩
    have LS : Hid (∀ s, Str s (Fx.X d) → s.size = L) := fun s hs => by rw [hs.size, hL]
    rw [hL] at GA GB r1 r2 r4 r5
    generalize Fx.X d = X at *
    generalize Fx.P d = Q at *
    generalize hkp : Fx.kp X k = V at *
    clear hkp hf hr EX hT h0 h1 hL
    obtain ⟨v, hv⟩ : ∃ v, V.length = v := ⟨_, rfl⟩
    have VS : Hid (∀ s, Str s V → s.size = v) := fun s hs => by rw [hs.size, hv]
    rw [hv] at LB GA GB
    clear hv
    have kb : (k : Int) ≤ 4200 := hn1
    have vb : (v : Int) ≤ 6000 := by omega
    have l1 : (1 : Int) ≤ (L : Int) := by omega
    have l2 : (L : Int) ≤ 1383 := by omega
    clear hn0 hn1 LB
    go_enter Tryz.func19, Tryz.ntmps19
    go_wp2_with fail
    refine RF.out.mono ?_
    rintro e wz ⟨rfl, hz⟩
    replace hz := hz.symm
    subst hz
    go_wp2_with fail
    refine HE.out.mono ?_
    rintro e w1 ⟨s, rfl, hs, B1⟩
    have hsz := LS.out s hs
    have K1 := hid (KE.out w1 s hs)
    have HB := hid B1
    clear B1 hs KE HE LS RF
    go_wp2_with fail
    refine K1.out.mono ?_
    rintro e w2 ⟨t, rfl, ht, B2⟩
    have htz := VS.out t ht
    have HB2 := hid (HB.out.trans (B2.mono HB.out.size))
    by_cases hvk : k < v
    · have K := hid (GA.out w2 t ht HB2.out hvk)
      have hvi : (k : Int) < (v : Int) := by omega
      clear B2 ht K1 HB VS GA GB
      go_wp2_with fail
      go_ret3
      exact K.out
    · have K := hid (GB.out w2 t ht HB2.out hvk)
      have hvi : ¬ (k : Int) < (v : Int) := by omega
      clear B2 ht K1 HB VS GA GB
      go_wp2_with fail
      go_ret3
      exact K.out
  · have F : Hid (FiguresTold d n w (.returned (.tuple #[.string ⟨#[]⟩, .int .i64 0, .int .i64 (Fx.rf d n 1)])) w) := ⟨_, by rw [Fx.gK, if_neg hr], by rw [Fx.gS, if_neg hr]; rfl, Below.refl _ _⟩
    have hr' : (Fx.rf d n 1 == 0) = false := by rw [beq_eq_false_iff_ne]; exact hr
    have hr2 : (Fx.rf d n 1 != 0) = true := by simp [bne, hr']
    generalize Fx.rf d n 1 = r at *
    clear hr h0 h1 hT
    go_enter Tryz.func19, Tryz.ntmps19
    go_wp2_with fail
    refine RF.out.mono ?_
    rintro e wz ⟨rfl, hz⟩
    replace hz := hz.symm
    subst hz
    go_wp2_with fail
    go_ret3
    exact F.out
end Go.Proofs.YtbdbpjghmejfjaaGreatDoor
