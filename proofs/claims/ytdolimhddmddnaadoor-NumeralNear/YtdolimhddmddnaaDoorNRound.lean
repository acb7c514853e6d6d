/-
  numeral's Round, at a row of digits.
-/
import Derived.Test.YtdolimhddmddnaaDoorNUpward
import Derived.Test.YtdolimhddmddnaaDoorNClone
import Derived.Test.YtdolimhddmddnaaDoorNLimb
import Derived.Test.YtdolimhddmddnaaDoorSmallA
import Derived.OwnWalk
namespace Go.Proofs.YtdolimhddmddnaaDoor
open Go.RowKit Go.Deep

/-- The rounded row. -/
def Rounded (xs ds : List Int) (k : Nat) (more c : Bool) : Prop :=
  Digs ds ∧ ds.length = k ∧ ∃ u, UpIs (xs.take k) (xs.drop k) more u ∧ dv ds + (if c then 10 ^ k else 0) = dv (xs.take k) + (if u then 1 else 0)

def RoundTold (s : ByteArray) (xs : List Int) (keep : Int) (more : Bool) (e : Ending) : Prop :=
  ((xs.length : Int) ≤ keep → e = .returned (.tuple #[.string s, .bool false, .int .i64 0])) ∧
  (keep < (xs.length : Int) → ∃ s' ds c, e = .returned (.tuple #[.string s', .bool c, .int .i64 0]) ∧ Str s' ds ∧ Rounded xs ds keep.toNat more c)

theorem wv_dig {x : Int} (h : 48 ≤ x ∧ x ≤ 57) : wv x = x - 48 := by rw [wv, if_pos h]

theorem digs_at {xs : List Int} (h : Digs xs) (i : Nat) (hi : i < xs.length) : 48 ≤ xs.getD i 0 ∧ xs.getD i 0 ≤ 57 := by
  have e : xs.getD i 0 = xs[i] := by simp [List.getD, hi]
  rw [e]
  exact h _ (List.getElem_mem hi)

theorem bytes_own {s : ByteArray} {xs : List Int} (hs : Str s xs) (w : World) (cap : Nat) : OwnF (w.drew.alloc (.cells (bytesRow s cap) 5 ((bytesRow s cap).size, (bytesRow s cap).size + 1))) w.heap.size (xs ++ List.replicate (cap - xs.length) 0) := by
  have e : bytesRow s cap = ((xs ++ List.replicate (cap - xs.length) 0).map (Value.int .u8)).toArray := by
    unfold bytesRow
    rw [hs.size]
    apply Array.toList_inj.1
    rw [← hs]
    simp
  refine ⟨(bytesRow s cap).size, (bytesRow s cap).size + 1, ?_, ?_⟩
  · show (w.heap.push _)[w.heap.size]? = _
    rw [Array.getElem?_push, if_pos rfl, ← e]
  · rw [e]
    simp

set_option maxRecDepth 100000 in
set_option maxHeartbeats 4000000 in
theorem round_any (s : ByteArray) (xs : List Int) (keep : Int) (more : Bool) (w : World) (hs : Str s xs) (h0 : xs ≠ []) (hd : Digs xs) (hl : xs.length ≤ 140737488351232) (hk : 0 ≤ keep) (hk1 : keep ≤ 9223372036854775807) :
    Calls Tryd.prog 15 #[.string s, .int .i64 keep, .bool more] w fun e w' => RoundTold s xs keep more e ∧ Below w.heap.size w w' := by
  obtain ⟨n, HN⟩ : ∃ n, Hid (xs.length = n) := ⟨_, rfl⟩
  have hsz : s.size = n := by rw [hs.size, HN.out]
  have e1 : s.toList ≠ [] := fun c => h0 ((str_nil hs).1 c)
  have e2 : (s.toList == []) = false := by rw [beq_eq_false_iff_ne]; exact e1
  have e3 : s.toList.isEmpty = false := by rw [List.isEmpty_eq_false_iff]; exact e1
  have WR : Hid (Calls Tryd.prog 26 #[.string s, .int .u64 10] w fun e w' => e = .returned (.int .i64 (-1)) ∧ w' = w) := by
    refine (wrong_any s xs xs.length 10 w hs rfl (by omega)).mono ?_
    rintro e w' ⟨⟨r, rfl, k⟩, rfl⟩
    cases k with
    | none _ => exact ⟨rfl, rfl⟩
    | here t h1 h2 h3 =>
      exfalso
      have := digs_at hd t h1
      rw [wv_dig this] at h3
      omega
  by_cases hge : (n : Int) ≤ keep
  · have CL := hid (clone_any s w (by rw [hsz]; have := HN.out; omega))
    have F : Hid (RoundTold s xs keep more (.returned (.tuple #[.string s, .bool false, .int .i64 0]))) := ⟨fun _ => rfl, fun c => by have := HN.out; omega⟩
    clear hs h0 hd hl
    go_enter Tryd.func15, Tryd.ntmps15
    go_wp2_with fail
    refine WR.out.mono ?_
    rintro e w' ⟨rfl, rfl⟩
    go_wp2_with fail
    refine CL.out.mono ?_
    rintro e w1 ⟨rfl, d1⟩
    have D1 := hid d1
    clear d1
    go_wp2_with fail
    go_ret3
    exact ⟨F.out, D1.out⟩
  · have hlt : keep < (n : Int) := by omega
    obtain ⟨k, HK⟩ : ∃ k, Hid (keep.toNat = k) := ⟨_, rfl⟩
    have hkk : keep = (k : Int) := by have := HK.out; omega
    have hkn : k < n := by omega
    have ST := hs.extract 0 k
    rw [List.drop_zero, Nat.sub_zero] at ST
    have SD := hs.extract k n
    rw [List.take_of_length_le (by have := HN.out; simp; omega)] at SD
    have hz1 : (s.extract 0 k).size = k := by rw [ST.size]; have := HN.out; simp; omega
    have CV := run_bytes_of_string (P := Tryd.prog) w 9 35 5 (s.extract 0 k) Tryd.underlying9 Tryd.underlying35 Tryd.underlying5
    rw [hz1] at CV
    obtain ⟨cap, hcap⟩ : ∃ cap, grownCap w k 0 5 = cap := ⟨_, rfl⟩
    rw [hcap] at CV
    have OF := bytes_own ST w cap
    have BW : Below w.heap.size w (w.drew.alloc (.cells (bytesRow (s.extract 0 k) cap) 5 ((bytesRow (s.extract 0 k) cap).size, (bytesRow (s.extract 0 k) cap).size + 1))) := (below_drewN (Below.refl _ _) 1).alloc (Nat.le_refl _) _
    obtain ⟨w1, hw1⟩ : ∃ w1, w.drew.alloc (.cells (bytesRow (s.extract 0 k) cap) 5 ((bytesRow (s.extract 0 k) cap).size, (bytesRow (s.extract 0 k) cap).size + 1)) = w1 := ⟨_, rfl⟩
    rw [hw1] at CV OF BW
    obtain ⟨es, hes⟩ : ∃ es, xs.take k ++ List.replicate (cap - (xs.take k).length) 0 = es := ⟨_, rfl⟩
    rw [hes] at OF
    have htk : (xs.take k).length = k := by have := HN.out; simp; omega
    have est : es.take k = xs.take k := by rw [← hes, List.take_append_of_le_length (by omega), List.take_of_length_le (by omega)]
    have esl : k ≤ es.length := by rw [← hes]; simp; have := HN.out; omega
    have dk : Digs (es.take k) := by rw [est]; exact fun d h => hd d (List.mem_of_mem_take h)
    have UP := hid (upward_any w.heap.size k cap es (xs.drop k) (s.extract k n) more w1 OF esl (by have := HN.out; omega) SD (fun c => by have := congrArg List.length c; have := HN.out; simp at *; omega) (by simp; omega) (fun d h => hd d (List.mem_of_mem_drop h)) dk)
    rw [est] at UP
    have EST := hid est
    have ESL := hid esl
    have HOF := hid OF
    have D1 := hid BW
    have DK := hid dk
    have FIN : Hid (∀ (W : World) (fs : List Int) (c u : Bool), OwnF W w.heap.size fs → k ≤ fs.length → UpIs (xs.take k) (xs.drop k) more u → Digs (fs.take k) → dv (fs.take k) + (if c then 10 ^ k else 0) = dv (xs.take k) + (if u then 1 else 0) →
        (convert 35 9 (.slice (some ⟨w.heap.size, 0, none⟩) k cap)).run Tryd.prog W = .ok (.string (strOfNums (fs.take k))) W ∧ RoundTold s xs keep more (.returned (.tuple #[.string (strOfNums (fs.take k)), .bool c, .int .i64 0]))) := by
      intro W fs c u o hl h1 h2 h3
      have hlen : (fs.take k).length = k := by simp; omega
      refine ⟨run_convert_bytes_arg (P := Tryd.prog) W 35 5 Tryd.underlying35 Tryd.underlying5 w.heap.size 0 k cap (fs.take k) hlen (fun i hi => ?_) 9 Tryd.underlying9, fun c => by have := HN.out; omega, fun _ => ⟨_, fs.take k, c, rfl, Str.of_nums (fun x hx => by have := h2 x hx; omega), ?_⟩⟩
      · rw [Nat.zero_add, o.cell i (by omega)]
        simp [List.getD, hi]
      · rw [HK.out]
        exact ⟨h2, hlen, u, h1, h3⟩
    have hkni : (k : Int) < (n : Int) := by omega
    have hnb : (n : Int) ≤ 140737488351232 := by have := HN.out; omega
    subst hkk
    clear hs h0 hd hl hlt hge ST SD OF BW hes est esl htk dk hw1 hcap hk1 hk
    go_enter Tryd.func15, Tryd.ntmps15
    go_wp2_with fail
    refine WR.out.mono ?_
    rintro e w' ⟨rfl, rfl⟩
    go_wp2_with fail
    refine UP.out.mono ?_
    rintro e w2 ⟨⟨u, rfl, hu⟩, d2⟩
    have O2 := hid (HOF.out.below d2 HOF.out.lt)
    have D2 := hid (chain D1.out d2 (Nat.le_refl _))
    have HU := hid hu
    clear hu d2 UP
    cases u with
    | false =>
      obtain ⟨cv, rt⟩ := FIN.out w2 es false false O2.out ESL.out HU.out DK.out (by rw [EST.out]; simp)
      have RT := hid rt
      clear rt FIN
      go_wp2_with fail
      go_ret3
      exact ⟨RT.out, D2.out⟩
    | true =>
      have RA := hid (raise_any w'.heap.size k cap es w2 O2.out ESL.out (by omega) DK.out)
      have HG : Hid (w'.heap.size ≤ w2.heap.size) := D2.out.size
      go_wp2_with fail
      refine RA.out.mono ?_
      rintro e w3 ⟨c, fs, rfl, o3, l3, r3, n3⟩
      have D3 : Hid (Below w'.heap.size w' w3) := D2.out.trans (n3.below (Nat.le_refl _) HG.out)
      rw [EST.out] at r3
      have hx : (es.take k).length = (xs.take k).length := by rw [EST.out]
      have hl1 : (xs.take k).length = k := by rw [← hx]; have := ESL.out; simp; omega
      obtain ⟨cv, rt⟩ := FIN.out w3 fs c true o3 (by have := ESL.out; omega) HU.out r3.1 (by have := r3.2.2; rw [hl1] at this; simpa using this)
      have RT := hid rt
      clear rt FIN o3 l3 r3 n3 RA hx hl1
      go_wp2_with fail
      go_ret3
      exact ⟨RT.out, D3.out⟩
end Go.Proofs.YtdolimhddmddnaaDoor
