/-
  Texts put together: KTrueN, KTrue.
-/
import Derived.Test.YthgjflfeilbbbaaGreatDoorKTN
import Derived.Test.YthgjflfeilbbbaaGreatDoorKAwake
import Derived.Test.YthgjflfeilbbbaaGreatDoorNAll
namespace Go.Proofs.YthgjflfeilbbbaaGreatDoor
open Go Go.RowKit Go.Deep

theorem dw_tv (l : List Int) : ∀ a : Int, Dn.tv 10 a (l.map (fun d => d - 48)) = l.foldl (fun a d => 10 * a + (d - 48)) a := by
  induction l with
  | nil => intro a; rfl
  | cons x l ih =>
    intro a
    rw [List.map_cons, Dn.tv, List.foldl_cons, ih, Int.mul_comm a 10]
theorem dw_dv (l : List Int) : dv l = dw l := by unfold dv dw; exact dw_tv l 0

theorem dw_split {xs : List Int} (k : Nat) : dw xs = dw (xs.take k) * 10 ^ (xs.length - k) + dw (xs.drop k) := by
  have h := dv_append (xs.take k) (xs.drop k)
  rw [List.take_append_drop, List.length_drop] at h
  rw [dw_dv, dw_dv, dw_dv] at h
  exact h
theorem dw_range {xs : List Int} (h : Dig9 xs) : 0 ≤ dw xs ∧ dw xs < 10 ^ xs.length := by
  have := dw_bd h xs.length (Nat.le_refl _)
  rwa [List.take_length] at this
theorem Dig9.drop {xs : List Int} (h : Dig9 xs) (k : Nat) : Dig9 (xs.drop k) := fun x hx => h x (List.mem_of_mem_drop hx)

theorem dw_pos {xs : List Int} (h : Dig9 xs) (hn : xs ≠ []) (h0 : xs.getD 0 0 ≠ 48) : 0 < dw xs := by
  cases xs with
  | nil => exact absurd rfl hn
  | cons x l =>
    have h1 := dv_cons x l
    rw [dw_dv, dw_dv] at h1
    have h2 := h x (by simp)
    have h3 : x ≠ 48 := h0
    have h4 := (dw_range (xs := l) (fun y hy => h y (by simp [hy]))).1
    have p : (0 : Int) < 10 ^ l.length := Int.pow_pos (by decide)
    have h5 : 1 * 10 ^ l.length ≤ (x - 48) * 10 ^ l.length := Int.mul_le_mul_of_nonneg_right (by omega) (by omega)
    omega

theorem stq_in {v q x : Int} (h : Ie.Stq v q x true) (hv : 0 < v) : -342 ≤ q ∧ q ≤ 308 := by
  rcases h with h | h | h
  · omega
  · exact absurd h.2.2.2 (by simp)
  · exact ⟨h.2.1, h.2.2.1⟩
theorem stq_no {v q x : Int} (h : Ie.Stq v q x false) : x = 0 := by
  rcases h with h | h | ⟨h0, h1, h2, A, B, a, b, h⟩
  · exact absurd h.2.2 (by simp)
  · exact h.2.2.1
  · rcases h with h | h
    · exact absurd h.2.2 (by simp)
    · exact h.2.1

theorem tell_no {xs : List Int} {e x : Int} (h : TellIs xs e x false) : x = 0 := by
  rcases h with ⟨_, ⟨_, _, _, h, _⟩ | ⟨_, h⟩⟩ | ⟨_, x1, s1, _, ⟨_, rfl, _⟩ | ⟨_, x2, s2, _, ⟨_, _, _, h⟩ | ⟨_, rfl, _⟩⟩⟩
  · exact absurd h (by simp)
  · exact stq_no h
  · rfl
  · exact absurd h (by simp)
  · rfl

theorem tell_must {xs : List Int} {e x : Int} (hd : Dig9 xs) (h : TellIs xs e x false) : 15 < xs.length ∨ e < -22 ∨ 22 < e := by
  rcases (show xs.length ≤ 15 ∨ 15 < xs.length by omega) with g | g
  · right
    rcases h with ⟨_, ⟨_, _, _, h, _⟩ | ⟨h, _⟩⟩ | ⟨h, _⟩
    · exact absurd h (by simp)
    · rcases h with h | h
      · exfalso
        have b := (dw_range hd).2
        have h1 := Nat.pow_le_pow_right (show 0 < 10 by decide) g
        have e1 : ((10 ^ xs.length : Nat) : Int) = 10 ^ xs.length := by simp
        have e2 : ((10 ^ 15 : Nat) : Int) = 1000000000000000 := by decide +kernel
        omega
      · exact h
    · omega
  · exact .inl g

theorem tell_zero {x : Int} {s : Bool} (h : TellIs [48] 0 x s) : x = 0 ∧ s = true := by
  have d0 : dw [48] = 0 := by decide
  rcases h with ⟨_, ⟨_, _, _, hs, h⟩ | ⟨h, _⟩⟩ | ⟨h, _⟩
  · rw [d0] at h
    refine ⟨?_, hs⟩
    have h2 : Ie.Rnd 0 1 0 false x := by simpa using h
    exact Ie.Rnd.one (a := 0) (a' := 0) (by decide) (by decide) h2 (Ie.rnd_zero 1 0 false (by decide)) (by omega) rfl
  · rw [d0] at h; omega
  · simp at h

theorem dw_head {xs : List Int} (h : Dig9 xs) (h0 : xs.getD 0 0 ≠ 48) (k : Nat) (hk : 0 < k) (hn : k ≤ xs.length) : 0 < dw (xs.take k) := by
  refine dw_pos (h.take k) ?_ ?_
  · intro c
    have := congrArg List.length c
    rw [List.length_take, List.length_nil] at this
    omega
  · cases xs with
    | nil => simp at hn; omega
    | cons x l =>
      cases k with
      | zero => omega
      | succ k => simpa using h0

theorem tell_e {xs : List Int} {e x : Int} (hd : Dig9 xs) (h0 : xs.getD 0 0 ≠ 48) (hn : xs ≠ []) (h2 : xs.length ≤ 2000) (h : TellIs xs e x true) : -3000 ≤ e ∧ e ≤ 3000 := by
  rcases h with ⟨_, ⟨_, a, b, _, _⟩ | ⟨_, h⟩⟩ | ⟨h19, x1, s1, h1, ⟨_, _, h⟩ | ⟨hs, x2, s2, _, _⟩⟩
  · omega
  · have := stq_in h (dw_pos hd hn h0)
    omega
  · exact absurd h (by simp)
  · subst hs
    have := stq_in h1 (dw_head hd h0 19 (by omega) (by omega))
    omega

theorem tens_add {e q : Int} {r : Nat} (h : q = e + r) : (10 : Int) ^ r * (10 ^ e.toNat * 10 ^ (-q).toNat) = 10 ^ q.toNat * 10 ^ (-e).toNat := by
  rw [← Int.pow_add, ← Int.pow_add, ← Int.pow_add]
  congr 1
  omega

/-- Where Try is sure, it tells the number itself, rounded. -/
theorem tell_true {xs : List Int} {e x y : Int} (hd : Dig9 xs) (h : TellIs xs e x true) (hy : Ie.Rnd (dw xs * 10 ^ e.toNat) (10 ^ (-e).toNat) 0 false y) : x = y := by
  have V0 : 0 ≤ dw xs * 10 ^ e.toNat := Int.mul_nonneg (dw_range hd).1 (Int.le_of_lt (Int.pow_pos (by decide)))
  have D0 : (0 : Int) < 10 ^ (-e).toNat := Int.pow_pos (by decide)
  rcases h with ⟨_, ⟨_, _, _, _, h⟩ | ⟨_, h⟩⟩ | ⟨h19, x1, s1, h1, ⟨_, _, h⟩ | ⟨hs, x2, s2, h2, ⟨hs2, he, hx, _⟩ | ⟨_, _, h⟩⟩⟩
  · exact Ie.Rnd.one (a := 0) (a' := 0) D0 D0 h hy (by omega) rfl
  · exact h.stp.true rfl (dw_range hd).1 V0 D0 hy rfl
  · exact absurd h (by simp)
  · subst hs hs2
    rw [he] at h2
    rw [hx]
    obtain ⟨r, hr⟩ : ∃ r : Nat, xs.length = r + 19 := ⟨xs.length - 19, by omega⟩
    have hq : e + xs.length - 19 = e + r := by omega
    rw [hq] at h1 h2
    have sp := dw_split (xs := xs) 19
    rw [show xs.length - 19 = r by omega] at sp
    have tl := dw_range (hd.drop 19)
    rw [List.length_drop, show xs.length - 19 = r by omega] at tl
    have hv := (dw_range (hd.take 19)).1
    generalize dw (xs.take 19) = v at *
    generalize dw (xs.drop 19) = t at *
    generalize dw xs = D at *
    have ta := tens_add (e := e) (q := e + r) (r := r) rfl
    have pp : (0 : Int) < 10 ^ e.toNat * 10 ^ (-(e + r)).toNat := Int.mul_pos (Int.pow_pos (by decide)) (Int.pow_pos (by decide))
    have le1 : x1 ≤ y := by
      refine h1.stp.le rfl hv D0 hy ?_
      rw [Int.mul_assoc, ← ta, Int.mul_assoc, ← Int.mul_assoc v]
      exact Int.mul_le_mul_of_nonneg_right (by omega) (by omega)
    have ge1 : y ≤ x1 := by
      refine h2.stp.ge rfl (by omega) V0 D0 hy ?_
      rw [Int.mul_assoc (v + 1), ← ta, Int.mul_assoc D, ← Int.mul_assoc (v + 1)]
      refine Int.mul_le_mul_of_nonneg_right ?_ (by omega)
      rw [Int.add_mul, Int.one_mul]
      omega
    omega
  · exact absurd h (by simp)
end Go.Proofs.YthgjflfeilbbbaaGreatDoor

namespace Go.Proofs.YthgjflfeilbbbaaGreatDoor
open Go Go.RowKit Go.Deep

/-- The Dec in its box. -/
def DB (w wx : World) (neg : Bool) (s : ByteArray) (e : Int) : Prop := Below w.heap.size w wx ∧ Row3 wx w.heap.size (.bool neg) (.string s) (.int .i64 e)
theorem DB.new (w : World) (neg : Bool) (s : ByteArray) (e : Int) : DB w (w.alloc (.cells #[.bool neg, .string s, .int .i64 e] 40)) neg s e := ⟨alloc_b _ _, Row3.new _ _ _ _⟩
theorem DB.on {w wx wy : World} {neg : Bool} {s : ByteArray} {e : Int} (h : DB w wx neg s e) (k : Below wx.heap.size wx wy) : DB w wy neg s e := ⟨below_on h.1 k, h.2.below k h.2.lt⟩

theorem ng_sg {y : Int} (h0 : 0 ≤ y) (h1 : y ≤ 9218868437227405312) : Ie.ng y = Ie.sg true y := by unfold Ie.ng Ie.sg; rw [if_pos (by omega), if_pos rfl]

set_option maxRecDepth 100000 in
set_option maxHeartbeats 2000000 in
theorem true_law (neg : Bool) (s : ByteArray) (xs : List Int) (e : Int) (w : World) (hT : Tab w) (hX : Tens w) (hs : Str s xs) (hn : xs.length ≤ 140737488355328) :
    Calls Tryz.prog 5 #[decV neg s e] w fun r w' => r = .returned (.bool true) ∧ Below w.heap.size w w' := by
  have hsz := hs.size
  have Z := hid (DB.new w neg s e)
  have AW := hid (fun wx (b : Below w.heap.size w wx) => awake_any9 wx (hT.below b) (hX.below b))
  have TR := hid (fun wx (b : Below w.heap.size w wx) => try_any9 neg s xs e wx (hT.below b) (hX.below b) hs (by omega))
  have NM := hid (fun wx => normal_any9 neg s xs e wx hs (by omega))
  have RD := hid (fun wx (hd : Digs xs) (h0 : xs ≠ []) (hv : dv xs < Nm.pw 4096) => read_any s xs wx hs hn hd h0 hv)
  have EX := hid (fun wx (b : Below w.heap.size w wx) (p : Option Addr) (os : List Int) (ha : Arg wx p os.length os.length os) (hV : Nm.val os = dw xs) (q0 : -10000 ≤ e) (q1 : e ≤ 10000) (hK : xs.length ≤ 10000) (hv : dw xs < 10 ^ xs.length) => exactly_any9 p os.length os.length os (dw xs) e wx (hT.below b) ha hV q0 q1 xs.length hK hv)
  have NG := hid (fun (x : Int) (wx : World) (h0 : 0 ≤ x) (h1 : x < 18446744073709551616) => neg_any x wx h0 h1)
  have NI := hid (nml_iff xs e)
  have HS := hid hs
  have hni : (xs.length : Int) ≤ 281474976710656 := by omega
  unfold decV at *
  clear hs hn hT hX
  go_enter Tryz.func5, Tryz.ntmps5
  go_upto_region 1 with fail
  generalize (w.alloc (.cells #[.bool neg, .string s, .int .i64 e] 40)) = w0 at *
  have b0 := Z.out.1
  go_wp2_with fail
  with_reducible refine (AW.out _ b0).mono ?_
  rintro r w1 ⟨rfl, hB1⟩
  have Z1 := hid (Z.out.on hB1)
  clear b0 hB1 Z AW
  obtain ⟨⟨c0, c1, c2⟩, _⟩ := Z1.out.2.cells
  have b1 := Z1.out.1
  go_wp2_with fail
  with_reducible refine (TR.out _ b1).mono ?_
  rintro r w2 ⟨ht, hB2⟩
  have Z2 := hid (Z1.out.on hB2)
  clear b1 hB2 Z1 TR c0 c1 c2
  obtain ⟨⟨c0, c1, c2⟩, _⟩ := Z2.out.2.cells
  rcases ht with ⟨hnm, rfl⟩ | ⟨hnm, x, su, TI, x0, x1, rfl⟩
  · rw [decide_eq_false hnm] at NM
    clear hnm
    go_wp2_with fail
    with_reducible refine (NM.out _).mono ?_
    rintro r w3 ⟨rfl, hB3⟩
    have F := hid (Z2.out.on hB3).1
    clear c0 c1 c2 Z2 hB3 NM
    go_wp2_with fail
    go_ret
    exact ⟨rfl, F.out⟩
  have hdg : Dig9 xs := isdec_dig hnm.1
  have HD := hid hdg
  obtain ⟨hne, _, _, _, hform⟩ := NI.out.1 hnm
  rw [decide_eq_true hnm] at NM
  have HT := hid TI
  clear hnm hdg TI NI
  rcases hform with ⟨h48, he0⟩ | ⟨h48, hh, _⟩
  · have hs0 : s = ⟨#[48]⟩ := HS.out.inj (by rw [h48]; rfl)
    have ht := HT.out
    rw [h48, he0] at ht
    obtain ⟨rfl, rfl⟩ := tell_zero ht
    clear ht HT RD EX HS HD hne h48 NG
    subst hs0 he0
    go_wp2_with fail
    with_reducible refine (NM.out _).mono ?_
    rintro r w3 ⟨rfl, hB3⟩
    have Z3 := hid (Z2.out.on hB3)
    clear c0 c1 c2 Z2 hB3 NM
    obtain ⟨⟨c0, c1, c2⟩, _⟩ := Z3.out.2.cells
    have F := hid Z3.out.1
    cases neg with
    | false =>
      unfold Ie.sg
      go_wp2_with fail
      go_ret
      exact ⟨rfl, F.out⟩
    | true =>
      unfold Ie.sg
      go_wp2_with fail
      go_ret
      exact ⟨rfl, F.out⟩
  · have q : (s.toList == [48]) = false := by
      have := HS.out.eq (t := ⟨#[48]⟩) (ys := [48]) rfl
      rw [decide_eq_false h48, show (⟨#[48]⟩ : ByteArray).toList = [48] by rw [ByteArray.toList_eq]] at this
      exact this
    have q1 : s.toList ≠ [48] := by simpa using q
    cases su with
    | false =>
      obtain rfl := tell_no HT.out
      have hm := tell_must HD.out HT.out
      clear RD EX HS HD HT NG hne h48 hh
      go_wp2_with fail
      with_reducible refine (NM.out _).mono ?_
      rintro r w3 ⟨rfl, hB3⟩
      have Z3 := hid (Z2.out.on hB3)
      clear c0 c1 c2 Z2 hB3 NM
      obtain ⟨⟨c0, c1, c2⟩, _⟩ := Z3.out.2.cells
      have F := hid Z3.out.1
      by_cases m1 : 15 < xs.length
      · have m1' : 15 < (xs.length : Int) := by omega
        clear hm
        go_wp2_with fail
        go_ret
        exact ⟨rfl, F.out⟩
      · have m1' : ¬ 15 < (xs.length : Int) := by omega
        by_cases m2 : e < -22
        · clear hm
          go_wp2_with fail
          go_ret
          exact ⟨rfl, F.out⟩
        · have m3 : 22 < e := by omega
          clear hm
          go_wp2_with fail
          go_ret
          exact ⟨rfl, F.out⟩
    | true =>
      by_cases h2 : 2000 < xs.length
      · have h2' : 2000 < (xs.length : Int) := by omega
        clear RD EX HS HD HT NG hne h48 hh
        go_wp2_with fail
        with_reducible refine (NM.out _).mono ?_
        rintro r w3 ⟨rfl, hB3⟩
        have Z3 := hid (Z2.out.on hB3)
        clear c0 c1 c2 Z2 hB3 NM
        obtain ⟨⟨c0, c1, c2⟩, _⟩ := Z3.out.2.cells
        have F := hid Z3.out.1
        go_wp2_with fail
        go_ret
        exact ⟨rfl, F.out⟩
      · have h2' : (xs.length : Int) ≤ 2000 := by omega
        have eb := tell_e HD.out hh hne (by omega) HT.out
        have rg := dw_range HD.out
        have R1 := hid (fun wx => RD.out wx HD.out hne (by rw [dw_dv]; have := ten_pw (show xs.length ≤ 20000 by omega); omega))
        rw [dw_dv] at R1
        have big : Hid (dw xs < Nm.pw 4096) := by have := ten_pw (show xs.length ≤ 20000 by omega); rw [Hid]; omega
        have E1 := hid (fun wx b p os ha hV => EX.out wx b p os ha hV (by omega) (by omega) (by omega) rg.2)
        have eb0 := eb.1
        have eb1 := eb.2
        clear RD EX HS hne h48 hh rg eb h2
        go_wp2_with fail
        with_reducible refine (NM.out _).mono ?_
        rintro r w3 ⟨rfl, hB3⟩
        have Z3 := hid (Z2.out.on hB3)
        clear c0 c1 c2 Z2 hB3 NM
        obtain ⟨⟨c0, c1, c2⟩, _⟩ := Z3.out.2.cells
        go_wp2_with fail
        with_reducible refine (R1.out _).mono ?_
        rintro r w4 ⟨p4, os4, rfl, A4, hB4⟩
        have Z4 := hid (Z3.out.on hB4)
        have ag := A4.argT big.out
        have va := A4.2.2.2.1
        have b4 := Z4.out.1
        clear c0 c1 c2 Z3 hB4 R1 A4
        obtain ⟨⟨c0, c1, c2⟩, _⟩ := Z4.out.2.cells
        have E2 := hid (E1.out _ b4 _ _ ag va)
        clear ag va b4 E1 big
        go_wp2_with fail
        with_reducible refine E2.out.mono ?_
        rintro r w5 ⟨y, rfl, R, hB5⟩
        obtain rfl := tell_true HD.out HT.out R
        have Z5 := hid (Z4.out.on hB5)
        clear c0 c1 c2 Z4 hB5 E2 R HD HT
        obtain ⟨⟨c0, c1, c2⟩, _⟩ := Z5.out.2.cells
        have F := hid Z5.out.1
        cases neg with
        | false =>
          unfold Ie.sg
          clear NG
          go_wp2_with fail
          go_ret
          exact ⟨rfl, F.out⟩
        | true =>
          have N1 := hid (NG.out x w5 x0 (by omega))
          rw [ng_sg x0 x1] at N1
          clear NG
          generalize Ie.sg true x = X at *
          go_wp2_with fail
          with_reducible refine N1.out.mono ?_
          rintro r w6 ⟨rfl, rfl⟩
          go_wp2_with fail
          go_ret
          exact ⟨rfl, F.out⟩
end Go.Proofs.YthgjflfeilbbbaaGreatDoor
