/-
  law21: RecordPieces.
-/
import Derived.Test.YtiggmgagcogakaaDoorRcL
namespace Go.Proofs.YtiggmgagcogakaaDoor
open Go Go.RowKit Go.Deep Go.Shelf

set_option maxRecDepth 100000 in
theorem lholds_no (x sep : ByteArray) (w : World) (hi : Lib.index x.data.toList sep.data.toList = -1) (hx : x.size ≤ 140737488355328) (hp : sep.size ≤ 140737488355328) :
    Calls Tryd.prog 9 #[.string x, .string sep] w fun e w' => e = .returned (.bool false) ∧ w' = w := by
  have NE : Hid (∀ k, k + sep.size ≤ x.size → (((x.extract k (k + sep.size)).toList == sep.toList) = false ∧ ¬ (x.extract k (k + sep.size)).toList = sep.toList)) := fun k hk => by
    have ne : x.extract k (k + sep.size) ≠ sep := by
      intro e
      rcases Lib.index_spec x.data.toList sep.data.toList with ⟨_, h⟩ | ⟨i, h1, _⟩
      · have h2 := Lib.occAt_iff_take x.data.toList sep.data.toList k (by rw [Ch.size_len, Ch.size_len]; exact hk)
        rw [Ch.tx_ext, Nat.add_sub_cancel_left] at e
        have e2 : (x.data.toList.drop k).take sep.data.toList.length = sep.data.toList := by rw [Ch.size_len]; conv => rhs; rw [← e, Ch.tx_data]
        have h3 := h k (by first | omega | (rw [Ch.size_len]; omega))
        rw [h3, e2] at h2
        simp at h2
      · rw [h1] at hi; omega
    have q := Ch.eq_lit (s := x.extract k (k + sep.size)) (t := sep)
    rw [decide_eq_false ne] at q
    exact ⟨q, fun e => ne (by rw [← Ch.tx_self (x.extract k (k + sep.size)), ← Ch.toList_tx, e, Ch.toList_tx, Ch.tx_self])⟩
  have hxi : (x.size : Int) ≤ 140737488355328 := by omega
  have hpi : (sep.size : Int) ≤ 140737488355328 := by omega
  clear hi
  go_enter Tryd.func9, Tryd.ntmps9
  go_wp2_with fail
  go_loopg [5] (x.size + 1) (fun m iv wr => ∃ k : Nat, k + m = x.size + 1 ∧ iv = .int .i64 (k : Int) ∧ Hid (wr = w))
  case atStart => exact ⟨0, by omega, rfl, rfl⟩
  case round =>
    obtain ⟨k, hk, rfl, J⟩ := hrel
    have J2 := J.out
    subst J2
    by_cases kl : k + sep.size ≤ x.size
    · have kli : (k : Int) + (sep.size : Int) ≤ (x.size : Int) := by omega
      obtain ⟨n1, n2⟩ := NE.out k kl
      go_wp2_with fail
      go_roundg (x.size + 1 - (k + 1))
      case measure => omega
      case rel => exact ⟨k + 1, by omega, by go_num, rfl⟩
    · have kli : ¬ (k : Int) + (sep.size : Int) ≤ (x.size : Int) := by omega
      go_wp2_with fail
      go_ret
      exact ⟨rfl, rfl⟩

namespace Ch
theorem sp_len4 (s sep : ByteArray) : (sp s sep).length ≤ s.size + 1 := by
  unfold sp
  by_cases h0 : s.size = 0
  · rw [if_pos h0]; simp
  · rw [if_neg h0]
    by_cases h1 : sep = ⟨#[32]⟩
    · rw [if_pos h1]; have := wd_le s; omega
    · rw [if_neg h1]
      by_cases h2 : sep.size = 0
      · rw [if_pos h2, sg_len]; omega
      · rw [if_neg h2, cut_len s sep (by omega)]
        have := Lib.countB_le sep (by omega) s.size s (Nat.le_refl _)
        omega
end Ch
theorem Ch.closedPieces : sp ⟨#[97, 44, 44, 98, 44]⟩ ⟨#[44]⟩ = [⟨#[97]⟩, ⟨#[]⟩, ⟨#[98]⟩, ⟨#[]⟩] := by decide +kernel

set_option maxRecDepth 100000 in
set_option maxHeartbeats 8000000 in
theorem rpieces_law (s fs : ByteArray) (w : World) (hm : ML w) (hs : s.size < 4294967281) (hf : fs.size ≤ 140737488351232) :
    Calls Tryd.prog 4 #[.string s, .string fs] w fun e w' => e = .returned (.bool true) ∧ Below w.heap.size w w' := by
  have F0 : Hid (Calls Tryd.prog 5 #[.string ⟨#[97, 44, 44, 98, 44]⟩, .string ⟨#[44]⟩] w fun e w' => (∃ a c, e = .returned (.slice a 4 c) ∧ TR w' a [⟨#[97]⟩, ⟨#[]⟩, ⟨#[98]⟩, ⟨#[]⟩]) ∧ Below w.heap.size w w') := by
    obtain ⟨ps, hp⟩ := Rc.pl_ex ⟨#[97, 44, 44, 98, 44]⟩ ⟨#[44]⟩
    have ok := Rc.ok_of hp (by decide) (by decide)
    refine (rfields_any _ _ ps hp (by decide) (fun _ => by decide) (by decide) w hm).mono ?_
    rintro e w' ⟨⟨v, rfl, ht⟩, b⟩
    have n := ok.len
    rw [Ch.closedPieces] at n
    rw [ok.all (by decide) (by rw [n]; decide), Ch.closedPieces] at ht
    obtain ⟨a, c, rfl, _, hr⟩ := ht.read
    exact ⟨⟨a, c, rfl, hr⟩, b⟩
  have MW : Hid (∀ w', Below w.heap.size w w' → ML w') := fun w' b => hm.b b
  have hsi : (s.size : Int) ≤ 4294967281 := by omega
  obtain ⟨ps, hp⟩ := Rc.pl_ex s fs
  by_cases h1 : fs = ⟨#[32]⟩
  · have F1 : Hid (∀ wx, ML wx → Calls Tryd.prog 5 #[.string s, .string fs] wx fun e w' => (∃ a n c, e = .returned (.slice a n c)) ∧ Below wx.heap.size wx w') := fun wx hx => by
      refine (rfields_any s fs ps hp (by omega) (fun _ => hs) (by omega) wx hx).mono ?_
      rintro e w' ⟨⟨v, rfl, ht⟩, b⟩
      obtain ⟨a, c, rfl, _, _⟩ := ht.read
      exact ⟨⟨a, _, c, rfl⟩, b⟩
    subst h1
    clear hm hs hf hp
    go_enter Tryd.func4, Tryd.ntmps4
    go_wp2_with fail
    refine F0.out.mono ?_
    rintro e w1 ⟨⟨a1, c1, rfl, hr⟩, hb⟩
    have B1 := hid hb
    obtain ⟨b1, o1, rfl, y0⟩ := hr.at 0 (by decide)
    have x0 : w1.cell? ⟨b1, o1, none⟩ = some (.string ⟨#[97]⟩) := y0
    have x1 : w1.cell? ⟨b1, o1 + 1, none⟩ = some (.string ⟨#[]⟩) := hr.addr 1 (by decide)
    have x3 : w1.cell? ⟨b1, o1 + 3, none⟩ = some (.string ⟨#[]⟩) := hr.addr 3 (by decide)
    clear y0 hb hr F0
    go_wp2_with fail
    refine (F1.out w1 (MW.out _ B1.out)).mono ?_
    rintro e w5 ⟨⟨a5, n5, c5, rfl⟩, hb⟩
    have B5 := hid (below_on B1.out hb)
    clear x0 x1 x3 hb B1
    go_wp2_with fail
    go_ret
    exact ⟨rfl, B5.out⟩
  · have q1 : (fs.toList == [32]) = false := by
      have := Ch.eq_lit (s := fs) (t := ⟨#[32]⟩)
      rw [decide_eq_false h1, Ch.toList_tx ⟨#[32]⟩] at this
      exact this
    have q2 : ¬ fs.toList = [32] := by simpa using q1
    by_cases h0 : s.size = 0
    · have F1 : Hid (∀ wx, ML wx → Calls Tryd.prog 5 #[.string s, .string fs] wx fun e w' => (∃ a c, e = .returned (.slice a 0 c)) ∧ Below wx.heap.size wx w') := fun wx hx => by
        refine (rfields_any s fs ps hp (by omega) (fun _ => hs) (by omega) wx hx).mono ?_
        rintro e w' ⟨⟨v, rfl, ht⟩, b⟩
        have pn : ps = [] := by
          unfold Rc.Pl at hp
          rw [if_neg h1] at hp
          by_cases h2 : fs.size = 0
          · rw [if_pos h2, h0] at hp; exact hp
          · rw [if_neg h2] at hp; exact hp.1 h0
        have e : Rc.fl s fs ps = [] := by rw [pn]; rfl
        rw [e] at ht
        obtain ⟨a, c, rfl, _, _⟩ := ht.read
        exact ⟨⟨a, c, rfl⟩, b⟩
      obtain rfl := Ch.size_zero h0
      clear hm hs hf hp h1
      go_enter Tryd.func4, Tryd.ntmps4
      go_wp2_with fail
      refine F0.out.mono ?_
      rintro e w1 ⟨⟨a1, c1, rfl, hr⟩, hb⟩
      have B1 := hid hb
      obtain ⟨b1, o1, rfl, y0⟩ := hr.at 0 (by decide)
      have x0 : w1.cell? ⟨b1, o1, none⟩ = some (.string ⟨#[97]⟩) := y0
      have x1 : w1.cell? ⟨b1, o1 + 1, none⟩ = some (.string ⟨#[]⟩) := hr.addr 1 (by decide)
      have x3 : w1.cell? ⟨b1, o1 + 3, none⟩ = some (.string ⟨#[]⟩) := hr.addr 3 (by decide)
      clear y0 hb hr F0
      go_wp2_with fail
      refine (F1.out w1 (MW.out _ B1.out)).mono ?_
      rintro e w5 ⟨⟨a5, c5, rfl⟩, hb⟩
      have B5 := hid (below_on B1.out hb)
      clear x0 x1 x3 hb B1
      go_wp2_with fail
      go_ret
      exact ⟨rfl, B5.out⟩
    · obtain ⟨m1, m2, m3⟩ := Ch.toList_ne h0
      have ok := Rc.ok_of hp h1 h0
      have nb : 0 < (Rc.fl s fs ps).length ∧ (Rc.fl s fs ps).length ≤ 32768 ∧ (Rc.fl s fs ps).length ≤ ps.length := by rw [Rc.fl_len]; have := ok.pos; unfold Rc.nf; omega
      have F1 : Hid (∀ wx, ML wx → Calls Tryd.prog 5 #[.string s, .string fs] wx fun e w' => (∃ a c, e = .returned (.slice a (Rc.fl s fs ps).length c) ∧ TR w' a (Rc.fl s fs ps)) ∧ Below wx.heap.size wx w') := fun wx hx => by
        refine (rfields_any s fs ps hp (by omega) (fun _ => hs) (by omega) wx hx).mono ?_
        rintro e w' ⟨⟨v, rfl, ht⟩, b⟩
        obtain ⟨a, c, rfl, _, hr⟩ := ht.read
        exact ⟨⟨a, c, rfl, hr⟩, b⟩
      have JN : Hid (∀ (wx : World) (a : Option Addr) (ca : Nat), TR wx a (Rc.fl s fs ps) → Calls Tryd.prog 7 #[.slice a (Rc.fl s fs ps).length ca, .string fs] wx fun e w' => e = .returned (.string s) ∧ Below wx.heap.size wx w') := fun wx a ca ht => by
        have q := ljoined_any a ca (Rc.fl s fs ps) fs wx ht (by omega) (by rw [ok.join h1, Ch.size_len]; omega)
        rw [ok.join h1, Ch.tx_self] at q
        exact q
      have SPL : Hid (∀ wx, ML wx → Calls Tryd.prog 10 #[.string s, .string fs] wx fun e w' => (∃ a c, e = .returned (.slice a (Ch.sp s fs).length c) ∧ TR w' a (Ch.sp s fs)) ∧ Below wx.heap.size wx w') := fun wx hx => by
        refine (csplit_any s fs wx hx hs).mono ?_
        rintro e w' ⟨⟨v, rfl, ht⟩, b⟩
        obtain ⟨a, c, rfl, _, hr⟩ := ht.read
        exact ⟨⟨a, c, rfl, hr⟩, b⟩
      have ALL : Hid ((Ch.sp s fs).length ≤ 32768 → Rc.fl s fs ps = Ch.sp s fs) := fun h => ok.all h1 (by rw [ok.len]; exact h)
      have PT : Hid (∀ k, k < (Rc.fl s fs ps).length → k < 32767 → (fs.size = 0 → ((Rc.fl s fs ps).getD k ByteArray.empty).size = 1) ∧ (fs.size ≠ 0 → Lib.index ((Rc.fl s fs ps).getD k ByteArray.empty).data.toList fs.data.toList = -1) ∧ ((Rc.fl s fs ps).getD k ByteArray.empty).size ≤ 140737488355328) := fun k hk hk7 => by
        have hk2 : k < ps.length := by omega
        have e : (Rc.fl s fs ps).getD k ByteArray.empty = Rc.tk s fs ps k := by
          rw [List.getD_eq_getElem?_getD, List.getElem?_eq_getElem hk]
          simp [Rc.fl]
        have mem := List.mem_of_getElem? (ok.tk hk2 (by omega))
        rw [e]
        refine ⟨fun z => ?_, fun z => ?_, ?_⟩
        · rw [Ch.sp, if_neg h0, if_neg h1, if_pos z] at mem
          exact Ch.sg_one s _ mem
        · rw [Ch.sp, if_neg h0, if_neg h1, if_neg z] at mem
          exact Ch.cut_free s fs (by omega) _ mem
        · unfold Rc.tk
          rw [if_neg (by omega), ByteArray.size_extract]
          omega
      have HF := hid hf
      have SPB : Hid ((Ch.sp s fs).length ≤ 8796093022208) := by have := Ch.sp_len4 s fs; rw [Hid]; omega
      generalize Ch.sp s fs = sp at *
      generalize Rc.fl s fs ps = ys at *
      obtain ⟨nb1, nb2, -⟩ := nb
      have z1 : ((ys.length : Int) == 0) = false := by rw [beq_eq_false_iff_ne]; omega
      have z2 : ¬ (32768 : Int) < (ys.length : Int) := by omega
      have yb : (ys.length : Int) ≤ 32768 := by omega
      clear hm hs hf hp h1 ok
      go_enter Tryd.func4, Tryd.ntmps4
      go_wp2_with fail
      refine F0.out.mono ?_
      rintro e w1 ⟨⟨a1, c1, rfl, hr⟩, hb⟩
      have B1 := hid hb
      obtain ⟨b1, o1, rfl, y0⟩ := hr.at 0 (by decide)
      have x0 : w1.cell? ⟨b1, o1, none⟩ = some (.string ⟨#[97]⟩) := y0
      have x1 : w1.cell? ⟨b1, o1 + 1, none⟩ = some (.string ⟨#[]⟩) := hr.addr 1 (by decide)
      have x3 : w1.cell? ⟨b1, o1 + 3, none⟩ = some (.string ⟨#[]⟩) := hr.addr 3 (by decide)
      clear y0 hb hr F0
      go_wp2_with fail
      refine (F1.out w1 (MW.out _ B1.out)).mono ?_
      rintro e w5 ⟨⟨a5, c5, rfl, hr5⟩, hb⟩
      have CJ := hid (JN.out w5 a5 c5 hr5)
      have R5 := hid hr5
      have B5 := hid (below_on B1.out hb)
      clear x0 x1 x3 hb hr5 B1 JN F1
      go_wp2_with fail
      refine CJ.out.mono ?_
      rintro e w6 ⟨rfl, hb⟩
      have R6 := hid (R5.out.below hb (Nat.le_refl _))
      have B6 := hid (below_on B5.out hb)
      clear hb R5 B5 CJ
      go_wp2_with fail
      go_loopg [6] ys.length (fun m iv wr => ∃ k : Nat, k + m = ys.length ∧ iv = .int .i64 (k : Int) ∧ Hid (wr = w6))
      case atStart => exact ⟨0, by omega, rfl, rfl⟩
      case round =>
        obtain ⟨k, hk, rfl, J⟩ := hrel
        have J2 := J.out
        subst J2
        by_cases kl : k < ys.length ∧ k < 32767
        · have kli : (k : Int) < (ys.length : Int) := by omega
          have kl7 : (k : Int) < 32767 := by omega
          obtain ⟨p1, p2, p3⟩ := PT.out k kl.1 kl.2
          obtain ⟨b, off, rfl, hc⟩ := R6.out.at k kl.1
          generalize ys.getD k ByteArray.empty = x at *
          by_cases f0 : fs.size = 0
          · have e1 := p1 f0
            obtain rfl := Ch.size_zero f0
            clear p1 p2 p3 kl
            go_wp2_with fail
            go_roundg (ys.length - (k + 1))
            case measure => omega
            case rel => exact ⟨k + 1, by omega, by go_num, rfl⟩
          · obtain ⟨n1, n2, n3⟩ := Ch.toList_ne f0
            have HO := hid (lholds_no x fs wr (p2 f0) p3 (by have := HF.out; omega))
            clear p1 p2 p3 kl
            go_wp2_with fail
            refine HO.out.mono ?_
            rintro e w7 ⟨rfl, hw7⟩
            rw [hw7]
            go_wp2_with fail
            go_roundg (ys.length - (k + 1))
            case measure => omega
            case rel => exact ⟨k + 1, by omega, by go_num, rfl⟩
        · have SP := hid (SPL.out wr (MW.out _ B6.out))
          have sb : (sp.length : Int) ≤ 8796093022208 := by have := SPB.out; omega
          clear SPL PT
          by_cases kl2 : k < ys.length
          · have kli : (k : Int) < (ys.length : Int) := by omega
            have kl7 : ¬ (k : Int) < 32767 := by omega
            clear kl kl2
            by_cases s8 : sp.length ≤ 32768
            · have s8i : ¬ (32768 : Int) < (sp.length : Int) := by omega
              obtain rfl := ALL.out s8
              clear s8
              go_wp2_with fail
              refine SP.out.mono ?_
              rintro e w8 ⟨⟨a8, c8, rfl, hr8⟩, hb⟩
              have SS := hid (lsame_yes a5 a8 c5 c8 ys w8 (R6.out.below hb (Nat.le_refl _)) hr8 (by omega))
              have B8' := hid (below_on B6.out hb)
              clear hb hr8 SP R6 B6
              go_wp2_with fail
              refine SS.out.mono ?_
              rintro e w10 ⟨rfl, hb⟩
              have B9 := hid (below_on B8'.out hb)
              clear hb SS B8'
              go_wp2_with fail
              go_ret
              exact ⟨rfl, B9.out⟩
            · have s8i : (32768 : Int) < (sp.length : Int) := by omega
              clear s8
              go_wp2_with fail
              refine SP.out.mono ?_
              rintro e w8 ⟨⟨a8, c8, rfl, hr8⟩, hb⟩
              have B8' := hid (below_on B6.out hb)
              clear hb hr8 SP R6 B6
              go_wp2_with fail
              go_ret
              exact ⟨rfl, B8'.out⟩
          · have kli : ¬ (k : Int) < (ys.length : Int) := by omega
            clear kl kl2
            by_cases s8 : sp.length ≤ 32768
            · have s8i : ¬ (32768 : Int) < (sp.length : Int) := by omega
              obtain rfl := ALL.out s8
              clear s8
              go_wp2_with fail
              refine SP.out.mono ?_
              rintro e w8 ⟨⟨a8, c8, rfl, hr8⟩, hb⟩
              have SS := hid (lsame_yes a5 a8 c5 c8 ys w8 (R6.out.below hb (Nat.le_refl _)) hr8 (by omega))
              have B8' := hid (below_on B6.out hb)
              clear hb hr8 SP R6 B6
              go_wp2_with fail
              refine SS.out.mono ?_
              rintro e w10 ⟨rfl, hb⟩
              have B9 := hid (below_on B8'.out hb)
              clear hb SS B8'
              go_wp2_with fail
              go_ret
              exact ⟨rfl, B9.out⟩
            · have s8i : (32768 : Int) < (sp.length : Int) := by omega
              clear s8
              go_wp2_with fail
              refine SP.out.mono ?_
              rintro e w8 ⟨⟨a8, c8, rfl, hr8⟩, hb⟩
              have B8' := hid (below_on B6.out hb)
              clear hb hr8 SP R6 B6
              go_wp2_with fail
              go_ret
              exact ⟨rfl, B8'.out⟩
end Go.Proofs.YtiggmgagcogakaaDoor
