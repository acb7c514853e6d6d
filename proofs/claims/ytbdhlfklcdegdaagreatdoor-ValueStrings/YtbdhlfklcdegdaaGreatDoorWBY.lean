/-
  Texts put together: PoC, PoD.
-/
import Derived.Test.YtbdhlfklcdegdaaGreatDoorWBU
namespace Go.Proofs.YtbdhlfklcdegdaaGreatDoor
open Go Go.RowKit Go.Deep Go.Shelf
theorem ext_tail {xs:List Int} (hx:Wh.By xs) (k:Nat):(strOfNums xs).extract k xs.length=strOfNums (xs.drop k):=by
 have q:=(Str.of_nums hx).extract k xs.length
 have e:(xs.drop k).take (xs.length - k)=xs.drop k:=List.take_of_length_le (by rw [List.length_drop];omega)
 rw [e] at q
 exact str_is q
theorem ext_head {xs:List Int} (hx:Wh.By xs) (k:Nat):(strOfNums xs).extract 0 k=strOfNums (xs.take k):=by
 have q:=(Str.of_nums hx).extract 0 k
 rw [List.drop_zero,Nat.sub_zero] at q
 exact str_is q
set_option maxRecDepth 100000 in
set_option maxHeartbeats 4000000 in
theorem ppowered_any (V d n:Int) (w:World) (hT:Tab w) (v0:0≤V) (v1:V<256) (h0:0≤d) (h1:d<18446744073709551616) (hf:Ie.fnt d=true) (n0:0≤n) (n1:n≤4199):
  Calls Tryz.prog 115 #[.int .u8 V,.int .u64 d,.int .i64 n] w fun e w'=>e=.returned (NumV ((Fx.gS d (n+1)).take 1) ((Fx.gS d (n+1)).drop 1) (Po.ex V (Fx.gK d (n+1))))∧Below w.heap.size w w':=by
 have B:=hid (NB.new w)
 have PL:=hid (fgx_any d (n+1) _ (hT.below (NB.new w).bel) h0 h1)
 have K:=Po.fgF hf (n:=n+1) (by omega) (by omega)
 have XP:=hid (fun wx=>pexp_any V (Fx.gK d (n+1)) wx v0 v1 (by have:=K.lo;omega) (by have:=K.hi;omega))
 have BY:=Po.digs_by K.s
 have X1:=hid (ext_head BY 1)
 have X2:=hid (ext_tail BY 1)
 have LN:=K.len
 obtain ⟨L,hL⟩:∃L,(Fx.gS d (n+1)).length=L:=⟨_,rfl⟩
 have SZ:(strOfNums (Fx.gS d (n+1))).size=L:=by rw [strOfNums_size,hL]
 rw [hL] at X2 LN
 have l1:(1:Int)≤(L:Int):=by omega
 have l2:(L:Int)≤4200:=by omega
 clear hT h0 h1 hf v0 v1 K BY LN hL
 generalize Fx.gS d (n+1)=S at *
 generalize Fx.gK d (n+1)=k at *
 generalize Fx.rf d (n+1) 1=r at *
 generalize Po.ex V k=E at *
 generalize S.take 1=S1 at *
 generalize S.drop 1=S2 at *
 generalize hs:strOfNums S=s at *
 clear hs
 go_enter Tryz.func115,Tryz.ntmps115
 go_wp2_with fail
 refine PL.out.mono ?_
 rintro e w1 ⟨rfl,b1⟩
 have B1:=hid (B.out.on b1)
 clear b1 B PL
 have FIN:Hid (∀wk,NB w w.heap.size [] [] [] wk→NB w w.heap.size S1 S2 E (((wk.setCell ⟨w.heap.size,0,none⟩ (.string (s.extract 0 1))).setCell ⟨w.heap.size,1,none⟩ (.string (s.extract 1 L))).setCell ⟨w.heap.size,2,none⟩ (.string (strOfNums E)))):=by
  intro wk h
  rw [X1.out,X2.out]
  exact h.put S1 S2 E
 have CL:Hid (∀wk,NB w w.heap.size [] [] [] wk→(wk.cell? ⟨w.heap.size,0,none⟩=some (.string (strOfNums []))∧wk.cell? ⟨w.heap.size,1,none⟩=some (.string (strOfNums []))∧wk.cell? ⟨w.heap.size,2,none⟩=some (.string (strOfNums [])))∧(wk.frozen? ⟨w.heap.size,0,none⟩=false∧wk.frozen? ⟨w.heap.size,1,none⟩=false∧wk.frozen? ⟨w.heap.size,2,none⟩=false)):=fun wk h=>h.box.cells
 go_upto_region 2 with fail
 have T1:=hid B1.out.drew
 obtain ⟨⟨c0,c1,c2⟩,f0,f1,f2⟩:=CL.out _ T1.out
 go_region_with (go_at_call 173;with_reducible refine (XP.out _).mono ?_;rintro e w2 ⟨rfl,b2⟩;have T2:=hid (T1.out.on b2);obtain ⟨⟨g0,g1,g2⟩,i0,i1,i2⟩:=CL.out _ T2.out;clear b2)
 all_goals (
  have T3:=hid (FIN.out _ T2.out)
  go_wp2_with fail
  (try simp only [Exit.inBlock,Exit.then])
  refine bodyPost_ret (results_cell_row rfl _ _ w.heap.size 161 _ (0,0) _ rfl T3.out.box Tryz.underlying161 rfl (by kernel_rfl)) rfl ?_
  exact ⟨rfl,T3.out.bel⟩)
set_option maxRecDepth 100000 in
set_option maxHeartbeats 4000000 in
theorem pgeneral_any (V d n:Int) (w:World) (hT:Tab w) (v0:0≤V) (v1:V<256) (h0:0≤d) (h1:d<18446744073709551616) (hf:Ie.fnt d=true) (n0:1≤n) (n1:n≤4096):
  Calls Tryz.prog 116 #[.int .u8 V,.int .u64 d,.int .i64 n] w fun e w'=>e=.returned (if -4≤Fx.gK d n∧Fx.gK d n<n then NumV (Fx.pA d (n - 1 - Fx.gK d n)) (Fx.pB d (n - 1 - Fx.gK d n)) [] else NumV ((Fx.gS d n).take 1) ((Fx.gS d n).drop 1) (Po.ex V (Fx.gK d n)))∧Below w.heap.size w w':=by
 have B:=hid (NB.new w)
 have PL:=hid (fgx_any d n _ (hT.below (NB.new w).bel) h0 h1)
 have K:=Po.fgF hf (n:=n) (by omega) (by omega)
 obtain ⟨k,hk⟩:∃k,Fx.gK d n=k:=⟨_,rfl⟩
 have k0:=K.lo
 have k1:=K.hi
 rw [hk] at k0 k1 PL
 have TB:Hid (∀wk,Below w.heap.size w wk→Tab wk):=fun wk h=>hT.below h
 have PW:Hid (∀wk,Tab wk→Calls Tryz.prog 115 #[.int .u8 V,.int .u64 d,.int .i64 (n - 1)] wk fun e w'=>e=.returned (NumV ((Fx.gS d n).take 1) ((Fx.gS d n).drop 1) (Po.ex V (Fx.gK d n)))∧Below wk.heap.size wk w'):=by
  intro wk h
  have q:=ppowered_any V d (n - 1) wk h v0 v1 h0 h1 hf (by omega) (by omega)
  rw [show n - 1+1=n by omega] at q
  exact q
 have PA:Hid (∀wk,Tab wk→Calls Tryz.prog 114 #[.int .u64 d,.int .i64 (n - 1 - k)] wk fun e w'=>e=.returned (NumV (Fx.pA d (n - 1 - k)) (Fx.pB d (n - 1 - k)) [])∧Below wk.heap.size wk w'):=fun wk h=>pplaced_any d (n - 1 - k) wk h h0 h1
 rw [hk] at PW ⊢
 have FIN:Hid (∀wk x y z,NB w w.heap.size [] [] [] wk→NB w w.heap.size x y z (((wk.setCell ⟨w.heap.size,0,none⟩ (.string (strOfNums x))).setCell ⟨w.heap.size,1,none⟩ (.string (strOfNums y))).setCell ⟨w.heap.size,2,none⟩ (.string (strOfNums z)))):=fun wk x y z h=>h.put x y z
 clear hT h0 h1 hf v0 v1 K hk
 generalize Fx.pA d (n - 1 - k)=A at *
 generalize Fx.pB d (n - 1 - k)=C at *
 generalize (Fx.gS d n).take 1=S1 at *
 generalize (Fx.gS d n).drop 1=S2 at *
 generalize Fx.gS d n=S at *
 generalize Fx.rf d n 1=r at *
 generalize Po.ex V k=E at *
 by_cases g:-4≤k∧k<n
 ·rw [if_pos g]
  obtain ⟨g1,g2⟩:=g
  unfold NumV at PA
  go_enter Tryz.func116,Tryz.ntmps116
  go_wp2_with fail
  refine PL.out.mono ?_
  rintro e w1 ⟨rfl,b1⟩
  have B1:=hid (B.out.on b1)
  have T1:=hid (TB.out _ B1.out.bel)
  clear b1 B PL
  go_wp2_with fail
  refine (PA.out _ T1.out).mono ?_
  rintro e w2 ⟨rfl,b2⟩
  have B2:=hid (B1.out.on b2)
  have B3:=hid (FIN.out _ A C [] B2.out)
  obtain ⟨⟨c0,c1,c2⟩,f0,f1,f2⟩:=B2.out.box.cells
  clear b2 B1 T1 TB PA PW
  go_wp2_with fail
  (try simp only [Exit.inBlock,Exit.then])
  refine bodyPost_ret (results_cell_row rfl _ _ w.heap.size 161 _ (0,0) _ rfl B3.out.box Tryz.underlying161 rfl (by kernel_rfl)) rfl ?_
  exact ⟨rfl,B3.out.bel⟩
 ·rw [if_neg g]
  unfold NumV at PW
  by_cases g1:-4≤k
  ·have g2:¬k<n:=by omega
   clear g
   go_enter Tryz.func116,Tryz.ntmps116
   go_wp2_with fail
   refine PL.out.mono ?_
   rintro e w1 ⟨rfl,b1⟩
   have B1:=hid (B.out.on b1)
   have T1:=hid (TB.out _ B1.out.bel)
   clear b1 B PL
   go_wp2_with fail
   refine (PW.out _ T1.out).mono ?_
   rintro e w2 ⟨rfl,b2⟩
   have B2:=hid (B1.out.on b2)
   have B3:=hid (FIN.out _ S1 S2 E B2.out)
   obtain ⟨⟨c0,c1,c2⟩,f0,f1,f2⟩:=B2.out.box.cells
   clear b2 B1 T1 TB PA PW
   go_wp2_with fail
   (try simp only [Exit.inBlock,Exit.then])
   refine bodyPost_ret (results_cell_row rfl _ _ w.heap.size 161 _ (0,0) _ rfl B3.out.box Tryz.underlying161 rfl (by kernel_rfl)) rfl ?_
   exact ⟨rfl,B3.out.bel⟩
  ·clear g
   go_enter Tryz.func116,Tryz.ntmps116
   go_wp2_with fail
   refine PL.out.mono ?_
   rintro e w1 ⟨rfl,b1⟩
   have B1:=hid (B.out.on b1)
   have T1:=hid (TB.out _ B1.out.bel)
   clear b1 B PL
   go_wp2_with fail
   refine (PW.out _ T1.out).mono ?_
   rintro e w2 ⟨rfl,b2⟩
   have B2:=hid (B1.out.on b2)
   have B3:=hid (FIN.out _ S1 S2 E B2.out)
   obtain ⟨⟨c0,c1,c2⟩,f0,f1,f2⟩:=B2.out.box.cells
   clear b2 B1 T1 TB PA PW
   go_wp2_with fail
   (try simp only [Exit.inBlock,Exit.then])
   refine bodyPost_ret (results_cell_row rfl _ _ w.heap.size 161 _ (0,0) _ rfl B3.out.box Tryz.underlying161 rfl (by kernel_rfl)) rfl ?_
   exact ⟨rfl,B3.out.bel⟩
set_option maxRecDepth 100000 in
set_option maxHeartbeats 4000000 in
theorem pwritten_any (a b p:List Int) (h:Bool) (w:World) (ha:Wh.By a) (hb:Wh.By b) (hp:Wh.By p) (la:a.length≤10000) (lb:b.length≤10000) (lp:p.length≤10000):
  Calls Tryz.prog 118 #[NumV a b p,.bool h] w fun e w'=>e=.returned (.string (strOfNums (Po.wrt a b p h)))∧Below w.heap.size w w':=by
 have B:=hid (alloc_b w (.cells #[.string (strOfNums a),.string (strOfNums b),.string (strOfNums p)] 161))
 have sa:(strOfNums a).size=a.length:=strOfNums_size a
 have sb:(strOfNums b).size=b.length:=strOfNums_size b
 have sp:(strOfNums p).size=p.length:=strOfNums_size p
 have SA:=Str.of_nums ha
 have SB:=Str.of_nums hb
 have SP:=Str.of_nums hp
 have na:((strOfNums a).size:Int)≤10000:=by rw [sa];omega
 have nb:((strOfNums b).size:Int)≤10000:=by rw [sb];omega
 have np:((strOfNums p).size:Int)≤10000:=by rw [sp];omega
 have EI:=isEmpty_nums b
 have EJ:=toList_nums b
 unfold NumV
 by_cases hc:b=[]∧h=false
 ·have E:Hid (strOfNums a++strOfNums p=strOfNums (Po.wrt a b p h)):=by
   rw [Hid,Po.wrt,if_pos hc];exact str_is (SA.app SP)
  obtain ⟨h1,h2⟩:=hc
  subst h1
  subst h2
  rw [show (([]:List Int).isEmpty)=true from rfl] at EI EJ
  clear SA SB SP sa sb sp la lb lp ha hb hp
  generalize strOfNums a=A at *
  generalize strOfNums p=P at *
  generalize Po.wrt a [] p false=R at *
  go_enter Tryz.func118,Tryz.ntmps118
  go_wp2_with fail
  go_ret
  exact ⟨ret_str E.out,B.out⟩
 ·have E:Hid (strOfNums a++⟨#[46]⟩++strOfNums b++strOfNums p=strOfNums (Po.wrt a b p h)):=by
   rw [Hid,Po.wrt,if_neg hc]
   have q:Str (strOfNums a++⟨#[46]⟩++strOfNums b++strOfNums p) (a++[46]++b++p):=((SA.app (show Str ⟨#[46]⟩ [46] from rfl)).app SB).app SP
   rw [str_is q]
   simp
  cases h with
  | true=>
   clear SA SB SP sa sb sp la lb lp ha hb hp hc
   generalize strOfNums a=A at *
   generalize strOfNums p=P at *
   generalize Po.wrt a b p true=R at *
   generalize b.isEmpty=be at *
   generalize strOfNums b=C at *
   cases be with
   | true=>
    go_enter Tryz.func118,Tryz.ntmps118
    go_wp2_with fail
    go_ret
    exact ⟨ret_str E.out,B.out⟩
   | false=>
    go_enter Tryz.func118,Tryz.ntmps118
    go_wp2_with fail
    go_ret
    exact ⟨ret_str E.out,B.out⟩
  | false=>
   have hbe:b.isEmpty=false:=by
    cases b with
    | nil=>exact absurd ⟨rfl,rfl⟩ hc
    | cons _ _=>rfl
   rw [hbe] at EI EJ
   clear SA SB SP sa sb sp la lb lp ha hb hp hc hbe
   generalize strOfNums a=A at *
   generalize strOfNums p=P at *
   generalize Po.wrt a b p false=R at *
   generalize strOfNums b=C at *
   go_enter Tryz.func118,Tryz.ntmps118
   go_wp2_with fail
   go_ret
   exact ⟨ret_str E.out,B.out⟩
end Go.Proofs.YtbdhlfklcdegdaaGreatDoor

namespace Go.Proofs.YtbdhlfklcdegdaaGreatDoor
open Go Go.RowKit Go.Deep Go.Shelf
structure BD (w0:World) (V F W P:Int) (x y z:List Int) (wk:World):Prop where
 bel:Below w0.heap.size w0 wk
 spec:S4 wk w0.heap.size (.int .u8 V) (.int .i64 F) (.int .i64 W) (.int .i64 P)
 num:N3 wk (w0.heap.size+1) (.string (strOfNums x)) (.string (strOfNums y)) (.string (strOfNums z))
theorem BD.new (w:World) (V F W P:Int):BD w V F W P [] [] [] ((w.alloc (.cells #[.int .u8 V,.int .i64 F,.int .i64 W,.int .i64 P] 58)).alloc (.cells #[.string ⟨#[]⟩,.string ⟨#[]⟩,.string ⟨#[]⟩] 161)):=
 ⟨below_on (alloc_b _ _) (alloc_b _ _),heap_alloc2_old _ _ _,heap_alloc2_new _ _ _⟩
theorem BD.on {w0 wk w':World} {V F W P:Int} {x y z:List Int} (h:BD w0 V F W P x y z wk) (k:Below wk.heap.size wk w'):BD w0 V F W P x y z w':=⟨below_on h.bel k,h.spec.below k,h.num.below k⟩
theorem BD.drew {w0 wk:World} {V F W P:Int} {x y z:List Int} (h:BD w0 V F W P x y z wk):BD w0 V F W P x y z wk.drew:=⟨h.bel.drew,h.spec,h.num⟩
theorem BD.put {w0 wk:World} {V F W P:Int} {x y z:List Int} (h:BD w0 V F W P x y z wk) (x' y' z':List Int):
  BD w0 V F W P x' y' z' (((wk.setCell ⟨w0.heap.size+1,0,none⟩ (.string (strOfNums x'))).setCell ⟨w0.heap.size+1,1,none⟩ (.string (strOfNums y'))).setCell ⟨w0.heap.size+1,2,none⟩ (.string (strOfNums z'))):=
 ⟨fset3_below h.bel (Nat.le_succ _),((h.spec.far (by omega)).far (by omega)).far (by omega),h.num.put _ _ _⟩
theorem BD.put1 {w0 wk:World} {V F W P:Int} {x y z:List Int} (h:BD w0 V F W P x y z wk) (y':List Int):
  BD w0 V F W P x y' z (wk.setCell ⟨w0.heap.size+1,1,none⟩ (.string (strOfNums y'))):=
 ⟨h.bel.setCell (p:=⟨w0.heap.size+1,1,none⟩) (Nat.le_succ _) _,h.spec.far (by omega),h.num.put1 _⟩
theorem BD.flat {w0 wk:World} {V F W P:Int} {x y z:List Int} (h:BD w0 V F W P x y z wk):
  (wk.cell? ⟨w0.heap.size,0,none⟩=some (.int .u8 V)∧wk.cell? ⟨w0.heap.size,1,none⟩=some (.int .i64 F)∧wk.cell? ⟨w0.heap.size,2,none⟩=some (.int .i64 W)∧wk.cell? ⟨w0.heap.size,3,none⟩=some (.int .i64 P))∧
  (wk.cell? ⟨w0.heap.size+1,0,none⟩=some (.string (strOfNums x))∧wk.cell? ⟨w0.heap.size+1,1,none⟩=some (.string (strOfNums y))∧wk.cell? ⟨w0.heap.size+1,2,none⟩=some (.string (strOfNums z))):=⟨h.spec.cells.1,h.num.cells.1⟩
theorem BD.cells {w0 wk:World} {V F W P:Int} {x y z:List Int} (h:BD w0 V F W P x y z wk):
  ((wk.cell? ⟨w0.heap.size,0,none⟩=some (.int .u8 V)∧wk.cell? ⟨w0.heap.size,1,none⟩=some (.int .i64 F)∧wk.cell? ⟨w0.heap.size,2,none⟩=some (.int .i64 W)∧wk.cell? ⟨w0.heap.size,3,none⟩=some (.int .i64 P)))∧
  (wk.cell? ⟨w0.heap.size+1,0,none⟩=some (.string (strOfNums x))∧wk.cell? ⟨w0.heap.size+1,1,none⟩=some (.string (strOfNums y))∧wk.cell? ⟨w0.heap.size+1,2,none⟩=some (.string (strOfNums z)))∧
  (wk.frozen? ⟨w0.heap.size+1,0,none⟩=false∧wk.frozen? ⟨w0.heap.size+1,1,none⟩=false∧wk.frozen? ⟨w0.heap.size+1,2,none⟩=false):=⟨h.spec.cells.1,h.num.cells.1,h.num.cells.2⟩
theorem ptrim_any (xs:List Int) (w:World) (hx:Wh.By xs) (hl:xs.length≤100000):
  Calls Tryz.prog 117 #[.string (strOfNums xs),.string ⟨#[48]⟩] w fun e w'=>e=.returned (.string (strOfNums (Po.sp xs)))∧w'=w:=by
 refine (frtrim0_any (strOfNums xs) xs w (Str.of_nums hx) (by omega)).mono ?_
 rintro e w' ⟨⟨s',k,rfl,h1,h2,h3,h4⟩,rfl⟩
 exact ⟨by rw [str_is h1,Po.sp_of h2 h3 h4],rfl⟩
set_option maxRecDepth 100000 in
set_option maxHeartbeats 4000000 in
theorem pbody_f (V F W P d:Int) (w:World) (hT:Tab w) (_v0:0≤V) (_v1:V<256) (hV:V=102∨V=70) (f0:0≤F) (f1:F≤31) (p0:-1≤P) (p1:P≤4096) (h0:0≤d) (h1:d<18446744073709551616) (hf:Ie.fnt d=true):
  Calls Tryz.prog 75 #[.agg #[.int .u8 V,.int .i64 F,.int .i64 W,.int .i64 P],.int .u64 d] w fun e w'=>e=.returned (.string (strOfNums (Po.bdF (Wh.bit F 8) d (Po.pr P))))∧Below w.heap.size w w':=by
 obtain ⟨q0,q1⟩:=Po.pr_bd p0 p1
 have K:=Po.plF hf q0 (by omega)
 have PA:Hid (∀wk,Tab wk→Calls Tryz.prog 114 #[.int .u64 d,.int .i64 (Po.pr P)] wk fun e w'=>e=.returned (NumV (Fx.pA d (Po.pr P)) (Fx.pB d (Po.pr P)) [])∧Below wk.heap.size wk w'):=fun wk h=>pplaced_any d (Po.pr P) wk h h0 h1
 have WR:Hid (∀wk,Calls Tryz.prog 118 #[NumV (Fx.pA d (Po.pr P)) (Fx.pB d (Po.pr P)) [],.bool (Wh.bit F 8)] wk fun e w'=>e=.returned (.string (strOfNums (Po.bdF (Wh.bit F 8) d (Po.pr P))))∧Below wk.heap.size wk w'):=fun wk=>pwritten_any _ _ _ _ wk (Po.digs_by K.a) (Po.digs_by K.b) Wh.By.nil (by have:=K.la;omega) (by have:=K.lb;omega) (by simp)
 have B:=hid (BD.new w V F W P)
 have TT:=hid (hT.below (BD.new w V F W P).bel)
 have HS:Hid (∀wk,Calls Tryz.prog 113 #[.agg #[.int .u8 V,.int .i64 F,.int .i64 W,.int .i64 P],.int .i64 8] wk fun e w'=>e=.returned (.bool (Wh.bit F 8))∧Below wk.heap.size wk w'):=by
  intro wk
  have q:=phas_any V F W P 8 wk
  rw [Po.hb_is f0 f1 (by omega)] at q
  exact q
 unfold NumV at PA WR
 have PR:Hid (Po.pr P=if P=-1 then 6 else P):=rfl
 clear hT h0 h1 hf K f0 f1
 generalize Po.bdF (Wh.bit F 8) d (Po.pr P)=R at *
 generalize Fx.pA d (Po.pr P)=x at *
 generalize Fx.pB d (Po.pr P)=y at *
 generalize Wh.bit F 8=hh at *
 generalize Po.pr P=pp at *
 rcases hV with rfl | rfl
 ·by_cases hP:P=-1
  ·have e6:pp=6:=by rw [PR.out,if_pos hP]
   subst e6
   subst hP
   clear PR
   go_enter Tryz.func75,Tryz.ntmps75
   go_wp2_with fail
   with_reducible refine (PA.out _ TT.out).mono ?_
   rintro e w1 ⟨rfl,b1⟩
   have B1:=hid (B.out.on b1)
   have B2:=hid (B1.out.put x y [])
   obtain ⟨⟨s0,s1,s2,s3⟩,⟨c0,c1,c2⟩,g0,g1,g2⟩:=B1.out.cells
   clear b1 B PA TT
   go_upto_region 15 with fail
   have T1:=hid B2.out.drew
   go_region_held3 (fun wx=>(wx.cell? ⟨w.heap.size,0,none⟩=some (.int .u8 102)∧wx.cell? ⟨w.heap.size,1,none⟩=some (.int .i64 F)∧wx.cell? ⟨w.heap.size,2,none⟩=some (.int .i64 W)∧wx.cell? ⟨w.heap.size,3,none⟩=some (.int .i64 (-1)))∧(wx.cell? ⟨w.heap.size+1,0,none⟩=some (.string (strOfNums x))∧wx.cell? ⟨w.heap.size+1,1,none⟩=some (.string (strOfNums y))∧wx.cell? ⟨w.heap.size+1,2,none⟩=some (.string (strOfNums [])))) (first | (with_reducible exact T3.out.flat) | (with_reducible exact T2.out.flat) | (with_reducible exact T1.out.flat)) (first
    | (go_at_call 113;with_reducible refine (HS.out _).mono ?_;rintro e wa ⟨rfl,hB⟩;have T2:=hid (T1.out.on hB);clear hB)
    | (go_at_call 118;with_reducible refine (WR.out _).mono ?_;rintro e wb ⟨rfl,hB⟩;have T3:=hid (T2.out.on hB);clear hB))
   go_wp2_with fail
   go_ret
   exact ⟨rfl,T3.out.bel⟩
  ·have e6:P=pp:=by rw [PR.out,if_neg hP]
   have hne:(pp == -1)=false:=by rw [←e6];simpa using hP
   subst e6
   clear PR hP
   go_enter Tryz.func75,Tryz.ntmps75
   go_wp2_with fail
   with_reducible refine (PA.out _ TT.out).mono ?_
   rintro e w1 ⟨rfl,b1⟩
   have B1:=hid (B.out.on b1)
   have B2:=hid (B1.out.put x y [])
   obtain ⟨⟨s0,s1,s2,s3⟩,⟨c0,c1,c2⟩,g0,g1,g2⟩:=B1.out.cells
   clear b1 B PA TT
   go_upto_region 15 with fail
   have T1:=hid B2.out.drew
   go_region_held3 (fun wx=>(wx.cell? ⟨w.heap.size,0,none⟩=some (.int .u8 102)∧wx.cell? ⟨w.heap.size,1,none⟩=some (.int .i64 F)∧wx.cell? ⟨w.heap.size,2,none⟩=some (.int .i64 W)∧wx.cell? ⟨w.heap.size,3,none⟩=some (.int .i64 P))∧(wx.cell? ⟨w.heap.size+1,0,none⟩=some (.string (strOfNums x))∧wx.cell? ⟨w.heap.size+1,1,none⟩=some (.string (strOfNums y))∧wx.cell? ⟨w.heap.size+1,2,none⟩=some (.string (strOfNums [])))) (first | (with_reducible exact T3.out.flat) | (with_reducible exact T2.out.flat) | (with_reducible exact T1.out.flat)) (first
    | (go_at_call 113;with_reducible refine (HS.out _).mono ?_;rintro e wa ⟨rfl,hB⟩;have T2:=hid (T1.out.on hB);clear hB)
    | (go_at_call 118;with_reducible refine (WR.out _).mono ?_;rintro e wb ⟨rfl,hB⟩;have T3:=hid (T2.out.on hB);clear hB))
   go_wp2_with fail
   go_ret
   exact ⟨rfl,T3.out.bel⟩
 ·by_cases hP:P=-1
  ·have e6:pp=6:=by rw [PR.out,if_pos hP]
   subst e6
   subst hP
   clear PR
   go_enter Tryz.func75,Tryz.ntmps75
   go_wp2_with fail
   with_reducible refine (PA.out _ TT.out).mono ?_
   rintro e w1 ⟨rfl,b1⟩
   have B1:=hid (B.out.on b1)
   have B2:=hid (B1.out.put x y [])
   obtain ⟨⟨s0,s1,s2,s3⟩,⟨c0,c1,c2⟩,g0,g1,g2⟩:=B1.out.cells
   clear b1 B PA TT
   go_upto_region 15 with fail
   have T1:=hid B2.out.drew
   go_region_held3 (fun wx=>(wx.cell? ⟨w.heap.size,0,none⟩=some (.int .u8 70)∧wx.cell? ⟨w.heap.size,1,none⟩=some (.int .i64 F)∧wx.cell? ⟨w.heap.size,2,none⟩=some (.int .i64 W)∧wx.cell? ⟨w.heap.size,3,none⟩=some (.int .i64 (-1)))∧(wx.cell? ⟨w.heap.size+1,0,none⟩=some (.string (strOfNums x))∧wx.cell? ⟨w.heap.size+1,1,none⟩=some (.string (strOfNums y))∧wx.cell? ⟨w.heap.size+1,2,none⟩=some (.string (strOfNums [])))) (first | (with_reducible exact T3.out.flat) | (with_reducible exact T2.out.flat) | (with_reducible exact T1.out.flat)) (first
    | (go_at_call 113;with_reducible refine (HS.out _).mono ?_;rintro e wa ⟨rfl,hB⟩;have T2:=hid (T1.out.on hB);clear hB)
    | (go_at_call 118;with_reducible refine (WR.out _).mono ?_;rintro e wb ⟨rfl,hB⟩;have T3:=hid (T2.out.on hB);clear hB))
   go_wp2_with fail
   go_ret
   exact ⟨rfl,T3.out.bel⟩
  ·have e6:P=pp:=by rw [PR.out,if_neg hP]
   have hne:(pp == -1)=false:=by rw [←e6];simpa using hP
   subst e6
   clear PR hP
   go_enter Tryz.func75,Tryz.ntmps75
   go_wp2_with fail
   with_reducible refine (PA.out _ TT.out).mono ?_
   rintro e w1 ⟨rfl,b1⟩
   have B1:=hid (B.out.on b1)
   have B2:=hid (B1.out.put x y [])
   obtain ⟨⟨s0,s1,s2,s3⟩,⟨c0,c1,c2⟩,g0,g1,g2⟩:=B1.out.cells
   clear b1 B PA TT
   go_upto_region 15 with fail
   have T1:=hid B2.out.drew
   go_region_held3 (fun wx=>(wx.cell? ⟨w.heap.size,0,none⟩=some (.int .u8 70)∧wx.cell? ⟨w.heap.size,1,none⟩=some (.int .i64 F)∧wx.cell? ⟨w.heap.size,2,none⟩=some (.int .i64 W)∧wx.cell? ⟨w.heap.size,3,none⟩=some (.int .i64 P))∧(wx.cell? ⟨w.heap.size+1,0,none⟩=some (.string (strOfNums x))∧wx.cell? ⟨w.heap.size+1,1,none⟩=some (.string (strOfNums y))∧wx.cell? ⟨w.heap.size+1,2,none⟩=some (.string (strOfNums [])))) (first | (with_reducible exact T3.out.flat) | (with_reducible exact T2.out.flat) | (with_reducible exact T1.out.flat)) (first
    | (go_at_call 113;with_reducible refine (HS.out _).mono ?_;rintro e wa ⟨rfl,hB⟩;have T2:=hid (T1.out.on hB);clear hB)
    | (go_at_call 118;with_reducible refine (WR.out _).mono ?_;rintro e wb ⟨rfl,hB⟩;have T3:=hid (T2.out.on hB);clear hB))
   go_wp2_with fail
   go_ret
   exact ⟨rfl,T3.out.bel⟩
set_option maxRecDepth 100000 in
set_option maxHeartbeats 4000000 in
theorem pbody_e (V F W P d:Int) (w:World) (hT:Tab w) (v0:0≤V) (v1:V<256) (hV:V=101∨V=69) (f0:0≤F) (f1:F≤31) (p0:-1≤P) (p1:P≤4096) (h0:0≤d) (h1:d<18446744073709551616) (hf:Ie.fnt d=true):
  Calls Tryz.prog 75 #[.agg #[.int .u8 V,.int .i64 F,.int .i64 W,.int .i64 P],.int .u64 d] w fun e w'=>e=.returned (.string (strOfNums (Po.bdE V (Wh.bit F 8) d (Po.pr P))))∧Below w.heap.size w w':=by
 obtain ⟨q0,q1⟩:=Po.pr_bd p0 p1
 have K:=Po.fgF hf (n:=Po.pr P+1) (by omega) (by omega)
 have PA:Hid (∀wk,Tab wk→Calls Tryz.prog 115 #[.int .u8 V,.int .u64 d,.int .i64 (Po.pr P)] wk fun e w'=>e=.returned (NumV ((Fx.gS d (Po.pr P+1)).take 1) ((Fx.gS d (Po.pr P+1)).drop 1) (Po.ex V (Fx.gK d (Po.pr P+1))))∧Below wk.heap.size wk w'):=fun wk h=>ppowered_any V d (Po.pr P) wk h v0 v1 h0 h1 hf q0 (by omega)
 have WR:Hid (∀wk,Calls Tryz.prog 118 #[NumV ((Fx.gS d (Po.pr P+1)).take 1) ((Fx.gS d (Po.pr P+1)).drop 1) (Po.ex V (Fx.gK d (Po.pr P+1))),.bool (Wh.bit F 8)] wk fun e w'=>e=.returned (.string (strOfNums (Po.bdE V (Wh.bit F 8) d (Po.pr P))))∧Below wk.heap.size wk w'):=fun wk=>pwritten_any _ _ _ _ wk (Po.digs_by (Po.digs_take K.s _)) (Po.digs_by (Po.digs_drop K.s _)) (Po.ex_by _ _) (by rw [List.length_take];omega) (by have:=K.len;rw [List.length_drop];omega) (by have:=Po.ex_len (V:=V) (k:=Fx.gK d (Po.pr P+1)) (by have:=K.lo;omega) (by have:=K.hi;omega);omega)
 have B:=hid (BD.new w V F W P)
 have TT:=hid (hT.below (BD.new w V F W P).bel)
 have HS:Hid (∀wk,Calls Tryz.prog 113 #[.agg #[.int .u8 V,.int .i64 F,.int .i64 W,.int .i64 P],.int .i64 8] wk fun e w'=>e=.returned (.bool (Wh.bit F 8))∧Below wk.heap.size wk w'):=by
  intro wk
  have q:=phas_any V F W P 8 wk
  rw [Po.hb_is f0 f1 (by omega)] at q
  exact q
 unfold NumV at PA WR
 have PR:Hid (Po.pr P=if P=-1 then 6 else P):=rfl
 clear hT h0 h1 hf K f0 f1
 generalize Po.bdE V (Wh.bit F 8) d (Po.pr P)=R at *
 generalize (Fx.gS d (Po.pr P+1)).take 1=x at *
 generalize (Fx.gS d (Po.pr P+1)).drop 1=y at *
 generalize Po.ex V (Fx.gK d (Po.pr P+1))=z at *
 generalize Wh.bit F 8=hh at *
 generalize Po.pr P=pp at *
 rcases hV with rfl | rfl
 ·by_cases hP:P=-1
  ·have e6:pp=6:=by rw [PR.out,if_pos hP]
   subst e6
   subst hP
   clear PR
   go_enter Tryz.func75,Tryz.ntmps75
   go_wp2_with fail
   with_reducible refine (PA.out _ TT.out).mono ?_
   rintro e w1 ⟨rfl,b1⟩
   have B1:=hid (B.out.on b1)
   have B2:=hid (B1.out.put x y z)
   obtain ⟨⟨s0,s1,s2,s3⟩,⟨c0,c1,c2⟩,g0,g1,g2⟩:=B1.out.cells
   clear b1 B PA TT
   go_upto_region 15 with fail
   have T1:=hid B2.out.drew
   go_region_held3 (fun wx=>(wx.cell? ⟨w.heap.size,0,none⟩=some (.int .u8 101)∧wx.cell? ⟨w.heap.size,1,none⟩=some (.int .i64 F)∧wx.cell? ⟨w.heap.size,2,none⟩=some (.int .i64 W)∧wx.cell? ⟨w.heap.size,3,none⟩=some (.int .i64 (-1)))∧(wx.cell? ⟨w.heap.size+1,0,none⟩=some (.string (strOfNums x))∧wx.cell? ⟨w.heap.size+1,1,none⟩=some (.string (strOfNums y))∧wx.cell? ⟨w.heap.size+1,2,none⟩=some (.string (strOfNums z)))) (first | (with_reducible exact T3.out.flat) | (with_reducible exact T2.out.flat) | (with_reducible exact T1.out.flat)) (first
    | (go_at_call 113;with_reducible refine (HS.out _).mono ?_;rintro e wa ⟨rfl,hB⟩;have T2:=hid (T1.out.on hB);clear hB)
    | (go_at_call 118;with_reducible refine (WR.out _).mono ?_;rintro e wb ⟨rfl,hB⟩;have T3:=hid (T2.out.on hB);clear hB))
   go_wp2_with fail
   go_ret
   exact ⟨rfl,T3.out.bel⟩
  ·have e6:P=pp:=by rw [PR.out,if_neg hP]
   have hne:(pp == -1)=false:=by rw [←e6];simpa using hP
   subst e6
   clear PR hP
   go_enter Tryz.func75,Tryz.ntmps75
   go_wp2_with fail
   with_reducible refine (PA.out _ TT.out).mono ?_
   rintro e w1 ⟨rfl,b1⟩
   have B1:=hid (B.out.on b1)
   have B2:=hid (B1.out.put x y z)
   obtain ⟨⟨s0,s1,s2,s3⟩,⟨c0,c1,c2⟩,g0,g1,g2⟩:=B1.out.cells
   clear b1 B PA TT
   go_upto_region 15 with fail
   have T1:=hid B2.out.drew
   go_region_held3 (fun wx=>(wx.cell? ⟨w.heap.size,0,none⟩=some (.int .u8 101)∧wx.cell? ⟨w.heap.size,1,none⟩=some (.int .i64 F)∧wx.cell? ⟨w.heap.size,2,none⟩=some (.int .i64 W)∧wx.cell? ⟨w.heap.size,3,none⟩=some (.int .i64 P))∧(wx.cell? ⟨w.heap.size+1,0,none⟩=some (.string (strOfNums x))∧wx.cell? ⟨w.heap.size+1,1,none⟩=some (.string (strOfNums y))∧wx.cell? ⟨w.heap.size+1,2,none⟩=some (.string (strOfNums z)))) (first | (with_reducible exact T3.out.flat) | (with_reducible exact T2.out.flat) | (with_reducible exact T1.out.flat)) (first
    | (go_at_call 113;with_reducible refine (HS.out _).mono ?_;rintro e wa ⟨rfl,hB⟩;have T2:=hid (T1.out.on hB);clear hB)
    | (go_at_call 118;with_reducible refine (WR.out _).mono ?_;rintro e wb ⟨rfl,hB⟩;have T3:=hid (T2.out.on hB);clear hB))
   go_wp2_with fail
   go_ret
   exact ⟨rfl,T3.out.bel⟩
 ·by_cases hP:P=-1
  ·have e6:pp=6:=by rw [PR.out,if_pos hP]
   subst e6
   subst hP
   clear PR
   go_enter Tryz.func75,Tryz.ntmps75
   go_wp2_with fail
   with_reducible refine (PA.out _ TT.out).mono ?_
   rintro e w1 ⟨rfl,b1⟩
   have B1:=hid (B.out.on b1)
   have B2:=hid (B1.out.put x y z)
   obtain ⟨⟨s0,s1,s2,s3⟩,⟨c0,c1,c2⟩,g0,g1,g2⟩:=B1.out.cells
   clear b1 B PA TT
   go_upto_region 15 with fail
   have T1:=hid B2.out.drew
   go_region_held3 (fun wx=>(wx.cell? ⟨w.heap.size,0,none⟩=some (.int .u8 69)∧wx.cell? ⟨w.heap.size,1,none⟩=some (.int .i64 F)∧wx.cell? ⟨w.heap.size,2,none⟩=some (.int .i64 W)∧wx.cell? ⟨w.heap.size,3,none⟩=some (.int .i64 (-1)))∧(wx.cell? ⟨w.heap.size+1,0,none⟩=some (.string (strOfNums x))∧wx.cell? ⟨w.heap.size+1,1,none⟩=some (.string (strOfNums y))∧wx.cell? ⟨w.heap.size+1,2,none⟩=some (.string (strOfNums z)))) (first | (with_reducible exact T3.out.flat) | (with_reducible exact T2.out.flat) | (with_reducible exact T1.out.flat)) (first
    | (go_at_call 113;with_reducible refine (HS.out _).mono ?_;rintro e wa ⟨rfl,hB⟩;have T2:=hid (T1.out.on hB);clear hB)
    | (go_at_call 118;with_reducible refine (WR.out _).mono ?_;rintro e wb ⟨rfl,hB⟩;have T3:=hid (T2.out.on hB);clear hB))
   go_wp2_with fail
   go_ret
   exact ⟨rfl,T3.out.bel⟩
  ·have e6:P=pp:=by rw [PR.out,if_neg hP]
   have hne:(pp == -1)=false:=by rw [←e6];simpa using hP
   subst e6
   clear PR hP
   go_enter Tryz.func75,Tryz.ntmps75
   go_wp2_with fail
   with_reducible refine (PA.out _ TT.out).mono ?_
   rintro e w1 ⟨rfl,b1⟩
   have B1:=hid (B.out.on b1)
   have B2:=hid (B1.out.put x y z)
   obtain ⟨⟨s0,s1,s2,s3⟩,⟨c0,c1,c2⟩,g0,g1,g2⟩:=B1.out.cells
   clear b1 B PA TT
   go_upto_region 15 with fail
   have T1:=hid B2.out.drew
   go_region_held3 (fun wx=>(wx.cell? ⟨w.heap.size,0,none⟩=some (.int .u8 69)∧wx.cell? ⟨w.heap.size,1,none⟩=some (.int .i64 F)∧wx.cell? ⟨w.heap.size,2,none⟩=some (.int .i64 W)∧wx.cell? ⟨w.heap.size,3,none⟩=some (.int .i64 P))∧(wx.cell? ⟨w.heap.size+1,0,none⟩=some (.string (strOfNums x))∧wx.cell? ⟨w.heap.size+1,1,none⟩=some (.string (strOfNums y))∧wx.cell? ⟨w.heap.size+1,2,none⟩=some (.string (strOfNums z)))) (first | (with_reducible exact T3.out.flat) | (with_reducible exact T2.out.flat) | (with_reducible exact T1.out.flat)) (first
    | (go_at_call 113;with_reducible refine (HS.out _).mono ?_;rintro e wa ⟨rfl,hB⟩;have T2:=hid (T1.out.on hB);clear hB)
    | (go_at_call 118;with_reducible refine (WR.out _).mono ?_;rintro e wb ⟨rfl,hB⟩;have T3:=hid (T2.out.on hB);clear hB))
   go_wp2_with fail
   go_ret
   exact ⟨rfl,T3.out.bel⟩
set_option maxRecDepth 100000 in
set_option maxHeartbeats 4000000 in
theorem pbody_g (V F W P d:Int) (w:World) (hT:Tab w) (v0:0≤V) (v1:V<256) (hV:V≠102∧V≠70∧V≠101∧V≠69) (f0:0≤F) (f1:F≤31) (p0:-1≤P) (p1:P≤4096) (h0:0≤d) (h1:d<18446744073709551616) (hf:Ie.fnt d=true):
  Calls Tryz.prog 75 #[.agg #[.int .u8 V,.int .i64 F,.int .i64 W,.int .i64 P],.int .u64 d] w fun e w'=>e=.returned (.string (strOfNums (Po.bdG V (Wh.bit F 8) d (max (Po.pr P) 1))))∧Below w.heap.size w w':=by
 obtain ⟨q0,q1⟩:=Po.pr_bd p0 p1
 have key:∃x y z:List Int,Hid (∀wk,Tab wk→Calls Tryz.prog 116 #[.int .u8 V,.int .u64 d,.int .i64 (max (Po.pr P) 1)] wk fun e w'=>e=.returned (NumV x y z)∧Below wk.heap.size wk w')∧
   Hid (∀wk,Calls Tryz.prog 118 #[NumV x (Po.st (Wh.bit F 8) y) z,.bool (Wh.bit F 8)] wk fun e w'=>e=.returned (.string (strOfNums (Po.bdG V (Wh.bit F 8) d (max (Po.pr P) 1))))∧Below wk.heap.size wk w')∧Wh.By y∧y.length≤10000:=by
  have K:=Po.fgF hf (n:=max (Po.pr P) 1) (by omega) (by omega)
  have GN:∀wk,Tab wk→_:=fun wk h=>pgeneral_any V d (max (Po.pr P) 1) wk h v0 v1 h0 h1 hf (by omega) (by omega)
  by_cases g:-4≤Fx.gK d (max (Po.pr P) 1)∧Fx.gK d (max (Po.pr P) 1)<max (Po.pr P) 1
  ·have J:=Po.plF hf (n:=max (Po.pr P) 1 - 1 - Fx.gK d (max (Po.pr P) 1)) (by omega) (by omega)
   simp only [if_pos g] at GN
   refine ⟨_,_,_,GN,fun wk=>?_,Po.digs_by J.b,by have:=J.lb;omega⟩
   have q:=pwritten_any (Fx.pA d (max (Po.pr P) 1 - 1 - Fx.gK d (max (Po.pr P) 1))) (Po.st (Wh.bit F 8) (Fx.pB d (max (Po.pr P) 1 - 1 - Fx.gK d (max (Po.pr P) 1)))) [] (Wh.bit F 8) wk (Po.digs_by J.a) (Po.digs_by (Po.digs_st _ J.b)) Wh.By.nil (by have:=J.la;omega) (by have:=J.lb;have:=Po.st_len (Wh.bit F 8) (Fx.pB d (max (Po.pr P) 1 - 1 - Fx.gK d (max (Po.pr P) 1)));omega) (by simp)
   unfold Po.bdG
   rw [if_pos g]
   exact q
  ·simp only [if_neg g] at GN
   have ln:=K.len
   refine ⟨_,_,_,GN,fun wk=>?_,Po.digs_by (Po.digs_drop K.s _),by rw [List.length_drop];omega⟩
   have q:=pwritten_any ((Fx.gS d (max (Po.pr P) 1)).take 1) (Po.st (Wh.bit F 8) ((Fx.gS d (max (Po.pr P) 1)).drop 1)) (Po.ex V (Fx.gK d (max (Po.pr P) 1))) (Wh.bit F 8) wk (Po.digs_by (Po.digs_take K.s _)) (Po.digs_by (Po.digs_st _ (Po.digs_drop K.s _))) (Po.ex_by _ _) (by rw [List.length_take];omega) (by have:=Po.st_len (Wh.bit F 8) ((Fx.gS d (max (Po.pr P) 1)).drop 1);rw [List.length_drop] at this;omega) (by have:=Po.ex_len (V:=V) (k:=Fx.gK d (max (Po.pr P) 1)) (by have:=K.lo;omega) (by have:=K.hi;omega);omega)
   unfold Po.bdG
   rw [if_neg g]
   exact q
 obtain ⟨x,y,z,PA,WR,yb,yl⟩:=key
 have TR:=hid (fun wk=>ptrim_any y wk yb (by omega))
 have B:=hid (BD.new w V F W P)
 have TT:=hid (hT.below (BD.new w V F W P).bel)
 have HS:Hid (∀wk,Calls Tryz.prog 113 #[.agg #[.int .u8 V,.int .i64 F,.int .i64 W,.int .i64 P],.int .i64 8] wk fun e w'=>e=.returned (.bool (Wh.bit F 8))∧Below wk.heap.size wk w'):=by
  intro wk
  have q:=phas_any V F W P 8 wk
  rw [Po.hb_is f0 f1 (by omega)] at q
  exact q
 unfold NumV at PA WR
 have PR:Hid (Po.pr P=if P=-1 then 6 else P):=rfl
 have n1:(V == 102)=false:=by simpa using hV.1
 have n2:(V == 70)=false:=by simpa using hV.2.1
 have n3:(V == 101)=false:=by simpa using hV.2.2.1
 have n4:(V == 69)=false:=by simpa using hV.2.2.2
 clear hT h0 h1 hf f0 f1 v0 v1 yb yl hV
 generalize Po.bdG V (Wh.bit F 8) d (max (Po.pr P) 1)=R at *
 have E1:Hid (Wh.bit F 8=true→Po.st (Wh.bit F 8) y=y):=fun h=>by unfold Po.st;rw [if_pos h]
 have E2:Hid (Wh.bit F 8=false→Po.st (Wh.bit F 8) y=Po.sp y):=fun h=>by unfold Po.st;rw [if_neg (by rw [h];decide)]
 generalize Wh.bit F 8=hh at *
 generalize Po.st hh y=ys at *
 generalize Po.sp y=y2 at *
 obtain ⟨mm,hmm⟩:∃mm,max (Po.pr P) 1=mm:=⟨_,rfl⟩
 rw [hmm] at PA
 cases hh with
 | true=>
  have e:=E1.out rfl
  subst e
  clear E1 E2
  by_cases hP:P=-1
  ·have e6:mm=6:=by rw [←hmm,PR.out,if_pos hP];decide
   subst e6
   subst hP
   clear PR hmm
   have m61:max (6:Int) 1=6:=by decide
   go_enter Tryz.func75,Tryz.ntmps75
   go_wp2_with fail
   with_reducible refine (PA.out _ TT.out).mono ?_
   rintro e w1 ⟨rfl,b1⟩
   have B1:=hid (B.out.on b1)
   have B2:=hid (B1.out.put x ys z)
   obtain ⟨⟨s0,s1,s2,s3⟩,⟨c0,c1,c2⟩,g0,g1,g2⟩:=B1.out.cells
   clear b1 B PA TT
   go_upto_region 7 with fail
   generalize ((w1.setCell ⟨w.heap.size+1,0,none⟩ (.string (strOfNums x))).setCell ⟨w.heap.size+1,1,none⟩ (.string (strOfNums ys))).setCell ⟨w.heap.size+1,2,none⟩ (.string (strOfNums z))=w2 at *
   clear s0 s1 s2 s3 c0 c1 c2 g0 g1 g2 B1
   obtain ⟨⟨s0,s1,s2,s3⟩,⟨c0,c1,c2⟩,g0,g1,g2⟩:=B2.out.cells
   go_wp2_with fail
   with_reducible refine (HS.out _).mono ?_
   rintro e w3 ⟨rfl,b3⟩
   have B3:=hid (B2.out.on b3)
   clear s0 s1 s2 s3 c0 c1 c2 g0 g1 g2 B2 b3
   obtain ⟨⟨s0,s1,s2,s3⟩,⟨c0,c1,c2⟩,g0,g1,g2⟩:=B3.out.cells
   go_upto_region 15 with fail
   have T1:=hid B3.out.drew
   go_region_held3 (fun wx=>(wx.cell? ⟨w.heap.size,0,none⟩=some (.int .u8 V)∧wx.cell? ⟨w.heap.size,1,none⟩=some (.int .i64 F)∧wx.cell? ⟨w.heap.size,2,none⟩=some (.int .i64 W)∧wx.cell? ⟨w.heap.size,3,none⟩=some (.int .i64 (-1)))∧(wx.cell? ⟨w.heap.size+1,0,none⟩=some (.string (strOfNums x))∧wx.cell? ⟨w.heap.size+1,1,none⟩=some (.string (strOfNums ys))∧wx.cell? ⟨w.heap.size+1,2,none⟩=some (.string (strOfNums z)))) (first | (with_reducible exact T3.out.flat) | (with_reducible exact T2.out.flat) | (with_reducible exact T1.out.flat)) (first
    | (go_at_call 113;with_reducible refine (HS.out _).mono ?_;rintro e wa ⟨rfl,hB⟩;have T2:=hid (T1.out.on hB);clear hB)
    | (go_at_call 118;with_reducible refine (WR.out _).mono ?_;rintro e wb ⟨rfl,hB⟩;have T3:=hid (T2.out.on hB);clear hB))
   go_wp2_with fail
   go_ret
   exact ⟨rfl,T3.out.bel⟩
  ·have e6:max P 1=mm:=by rw [←hmm,PR.out,if_neg hP]
   have hne:(P == -1)=false:=by simpa using hP
   clear PR hP hmm
   go_enter Tryz.func75,Tryz.ntmps75
   go_wp2_with fail
   with_reducible refine (PA.out _ TT.out).mono ?_
   rintro e w1 ⟨rfl,b1⟩
   have B1:=hid (B.out.on b1)
   have B2:=hid (B1.out.put x ys z)
   obtain ⟨⟨s0,s1,s2,s3⟩,⟨c0,c1,c2⟩,g0,g1,g2⟩:=B1.out.cells
   clear b1 B PA TT
   go_upto_region 7 with fail
   generalize ((w1.setCell ⟨w.heap.size+1,0,none⟩ (.string (strOfNums x))).setCell ⟨w.heap.size+1,1,none⟩ (.string (strOfNums ys))).setCell ⟨w.heap.size+1,2,none⟩ (.string (strOfNums z))=w2 at *
   clear s0 s1 s2 s3 c0 c1 c2 g0 g1 g2 B1
   obtain ⟨⟨s0,s1,s2,s3⟩,⟨c0,c1,c2⟩,g0,g1,g2⟩:=B2.out.cells
   go_wp2_with fail
   with_reducible refine (HS.out _).mono ?_
   rintro e w3 ⟨rfl,b3⟩
   have B3:=hid (B2.out.on b3)
   clear s0 s1 s2 s3 c0 c1 c2 g0 g1 g2 B2 b3
   obtain ⟨⟨s0,s1,s2,s3⟩,⟨c0,c1,c2⟩,g0,g1,g2⟩:=B3.out.cells
   go_upto_region 15 with fail
   have T1:=hid B3.out.drew
   go_region_held3 (fun wx=>(wx.cell? ⟨w.heap.size,0,none⟩=some (.int .u8 V)∧wx.cell? ⟨w.heap.size,1,none⟩=some (.int .i64 F)∧wx.cell? ⟨w.heap.size,2,none⟩=some (.int .i64 W)∧wx.cell? ⟨w.heap.size,3,none⟩=some (.int .i64 P))∧(wx.cell? ⟨w.heap.size+1,0,none⟩=some (.string (strOfNums x))∧wx.cell? ⟨w.heap.size+1,1,none⟩=some (.string (strOfNums ys))∧wx.cell? ⟨w.heap.size+1,2,none⟩=some (.string (strOfNums z)))) (first | (with_reducible exact T3.out.flat) | (with_reducible exact T2.out.flat) | (with_reducible exact T1.out.flat)) (first
    | (go_at_call 113;with_reducible refine (HS.out _).mono ?_;rintro e wa ⟨rfl,hB⟩;have T2:=hid (T1.out.on hB);clear hB)
    | (go_at_call 118;with_reducible refine (WR.out _).mono ?_;rintro e wb ⟨rfl,hB⟩;have T3:=hid (T2.out.on hB);clear hB))
   go_wp2_with fail
   go_ret
   exact ⟨rfl,T3.out.bel⟩
 | false=>
  have e:=E2.out rfl
  subst e
  clear E1 E2
  by_cases hP:P=-1
  ·have e6:mm=6:=by rw [←hmm,PR.out,if_pos hP];decide
   subst e6
   subst hP
   clear PR hmm
   have m61:max (6:Int) 1=6:=by decide
   go_enter Tryz.func75,Tryz.ntmps75
   go_wp2_with fail
   with_reducible refine (PA.out _ TT.out).mono ?_
   rintro e w1 ⟨rfl,b1⟩
   have B1:=hid (B.out.on b1)
   have B2:=hid (B1.out.put x y z)
   obtain ⟨⟨s0,s1,s2,s3⟩,⟨c0,c1,c2⟩,g0,g1,g2⟩:=B1.out.cells
   clear b1 B PA TT
   go_upto_region 7 with fail
   generalize ((w1.setCell ⟨w.heap.size+1,0,none⟩ (.string (strOfNums x))).setCell ⟨w.heap.size+1,1,none⟩ (.string (strOfNums y))).setCell ⟨w.heap.size+1,2,none⟩ (.string (strOfNums z))=w2 at *
   clear s0 s1 s2 s3 c0 c1 c2 g0 g1 g2 B1
   obtain ⟨⟨s0,s1,s2,s3⟩,⟨c0,c1,c2⟩,g0,g1,g2⟩:=B2.out.cells
   go_wp2_with fail
   with_reducible refine (HS.out _).mono ?_
   rintro e w3 ⟨rfl,b3⟩
   have B3:=hid (B2.out.on b3)
   clear s0 s1 s2 s3 c0 c1 c2 g0 g1 g2 B2 b3
   obtain ⟨⟨s0,s1,s2,s3⟩,⟨c0,c1,c2⟩,g0,g1,g2⟩:=B3.out.cells
   go_wp2_with fail
   with_reducible refine (TR.out _).mono ?_
   rintro e w4 ⟨rfl,hw4⟩
   rw [hw4]
   clear hw4 w4
   have B4:=hid (B3.out.put1 ys)
   go_upto_region 15 with fail
   have T1:=hid B4.out.drew
   go_region_held3 (fun wx=>(wx.cell? ⟨w.heap.size,0,none⟩=some (.int .u8 V)∧wx.cell? ⟨w.heap.size,1,none⟩=some (.int .i64 F)∧wx.cell? ⟨w.heap.size,2,none⟩=some (.int .i64 W)∧wx.cell? ⟨w.heap.size,3,none⟩=some (.int .i64 (-1)))∧(wx.cell? ⟨w.heap.size+1,0,none⟩=some (.string (strOfNums x))∧wx.cell? ⟨w.heap.size+1,1,none⟩=some (.string (strOfNums ys))∧wx.cell? ⟨w.heap.size+1,2,none⟩=some (.string (strOfNums z)))) (first | (with_reducible exact T3.out.flat) | (with_reducible exact T2.out.flat) | (with_reducible exact T1.out.flat)) (first
    | (go_at_call 113;with_reducible refine (HS.out _).mono ?_;rintro e wa ⟨rfl,hB⟩;have T2:=hid (T1.out.on hB);clear hB)
    | (go_at_call 118;with_reducible refine (WR.out _).mono ?_;rintro e wb ⟨rfl,hB⟩;have T3:=hid (T2.out.on hB);clear hB))
   go_wp2_with fail
   go_ret
   exact ⟨rfl,T3.out.bel⟩
  ·have e6:max P 1=mm:=by rw [←hmm,PR.out,if_neg hP]
   have hne:(P == -1)=false:=by simpa using hP
   clear PR hP hmm
   go_enter Tryz.func75,Tryz.ntmps75
   go_wp2_with fail
   with_reducible refine (PA.out _ TT.out).mono ?_
   rintro e w1 ⟨rfl,b1⟩
   have B1:=hid (B.out.on b1)
   have B2:=hid (B1.out.put x y z)
   obtain ⟨⟨s0,s1,s2,s3⟩,⟨c0,c1,c2⟩,g0,g1,g2⟩:=B1.out.cells
   clear b1 B PA TT
   go_upto_region 7 with fail
   generalize ((w1.setCell ⟨w.heap.size+1,0,none⟩ (.string (strOfNums x))).setCell ⟨w.heap.size+1,1,none⟩ (.string (strOfNums y))).setCell ⟨w.heap.size+1,2,none⟩ (.string (strOfNums z))=w2 at *
   clear s0 s1 s2 s3 c0 c1 c2 g0 g1 g2 B1
   obtain ⟨⟨s0,s1,s2,s3⟩,⟨c0,c1,c2⟩,g0,g1,g2⟩:=B2.out.cells
   go_wp2_with fail
   with_reducible refine (HS.out _).mono ?_
   rintro e w3 ⟨rfl,b3⟩
   have B3:=hid (B2.out.on b3)
   clear s0 s1 s2 s3 c0 c1 c2 g0 g1 g2 B2 b3
   obtain ⟨⟨s0,s1,s2,s3⟩,⟨c0,c1,c2⟩,g0,g1,g2⟩:=B3.out.cells
   go_wp2_with fail
   with_reducible refine (TR.out _).mono ?_
   rintro e w4 ⟨rfl,hw4⟩
   rw [hw4]
   clear hw4 w4
   have B4:=hid (B3.out.put1 ys)
   go_upto_region 15 with fail
   have T1:=hid B4.out.drew
   go_region_held3 (fun wx=>(wx.cell? ⟨w.heap.size,0,none⟩=some (.int .u8 V)∧wx.cell? ⟨w.heap.size,1,none⟩=some (.int .i64 F)∧wx.cell? ⟨w.heap.size,2,none⟩=some (.int .i64 W)∧wx.cell? ⟨w.heap.size,3,none⟩=some (.int .i64 P))∧(wx.cell? ⟨w.heap.size+1,0,none⟩=some (.string (strOfNums x))∧wx.cell? ⟨w.heap.size+1,1,none⟩=some (.string (strOfNums ys))∧wx.cell? ⟨w.heap.size+1,2,none⟩=some (.string (strOfNums z)))) (first | (with_reducible exact T3.out.flat) | (with_reducible exact T2.out.flat) | (with_reducible exact T1.out.flat)) (first
    | (go_at_call 113;with_reducible refine (HS.out _).mono ?_;rintro e wa ⟨rfl,hB⟩;have T2:=hid (T1.out.on hB);clear hB)
    | (go_at_call 118;with_reducible refine (WR.out _).mono ?_;rintro e wb ⟨rfl,hB⟩;have T3:=hid (T2.out.on hB);clear hB))
   go_wp2_with fail
   go_ret
   exact ⟨rfl,T3.out.bel⟩
theorem pbody_any (V F W P d:Int) (w:World) (hT:Tab w) (v0:0≤V) (v1:V<256) (f0:0≤F) (f1:F≤31) (p0:-1≤P) (p1:P≤4096) (h0:0≤d) (h1:d<18446744073709551616) (hf:Ie.fnt d=true):
  Calls Tryz.prog 75 #[.agg #[.int .u8 V,.int .i64 F,.int .i64 W,.int .i64 P],.int .u64 d] w fun e w'=>e=.returned (.string (strOfNums (Po.bd V (Wh.bit F 8) P d)))∧Below w.heap.size w w':=by
 unfold Po.bd
 by_cases c1:V=102∨V=70
 ·rw [if_pos c1];exact pbody_f V F W P d w hT v0 v1 c1 f0 f1 p0 p1 h0 h1 hf
 ·rw [if_neg c1]
  by_cases c2:V=101∨V=69
  ·rw [if_pos c2];exact pbody_e V F W P d w hT v0 v1 c2 f0 f1 p0 p1 h0 h1 hf
  ·rw [if_neg c2];exact pbody_g V F W P d w hT v0 v1 (by omega) f0 f1 p0 p1 h0 h1 hf
end Go.Proofs.YtbdhlfklcdegdaaGreatDoor
