/-
  Texts put together: QDiv, QDivMod, QRef1.
-/
import Derived.Test.YtbdhlfklcdegdaaGreatDoorWAV
import Derived.Test.YtbdhlfklcdegdaaGreatDoorWAR
import Derived.Test.YtbdhlfklcdegdaaGreatDoorWAJ
import Derived.WalkMore
import Derived.Deep.LoopGhost
import Derived.Test.YtbdhlfklcdegdaaGreatDoorWAH
import Derived.Test.YtbdhlfklcdegdaaGreatDoorWAM
import Derived.Test.YtbdhlfklcdegdaaGreatDoorWAX
import Derived.Test.YtbdhlfklcdegdaaGreatDoorWAO
namespace Go.Proofs.YtbdhlfklcdegdaaGreatDoor
open Go.RowKit Go.Deep
theorem Lies.low {g:Nat} {w w':World} {p:Option Addr} {zs:List Int} (h:Lies w p zs) (hb:Below g w w') (hp:∀a,p=some a→a.block<g):Lies w' p zs:=by
 rcases h with rfl | ⟨b,off,e,h⟩
 ·exact .inl rfl
 ·refine .inr ⟨b,off,e,fun i hi=>?_⟩
  rw [hb.cell (p:=⟨b,off+i,none⟩) (hp ⟨b,off,none⟩ e)]
  exact h i hi
theorem Own.other {w:World} {g g':Nat} {zs:List Int} (h:Own w g zs) (hg:g'≠g) (i:Nat) (v:Value):Own (w.setCell ⟨g',i,none⟩ v) g zs:=by
 simp only [Own] at h ⊢
 simp only [World.setCell,Array.getElem?_modify]
 rw [if_neg hg]
 exact h
namespace Qd
open Go.Proofs.YtbdhlfklcdegdaaGreatDoor.Nm
def part (rs:List Int) (t n1:Nat):List Int:=(rs.drop t).take n1
theorem part_length {rs:List Int} {t n1:Nat} (h:t+n1≤rs.length):(part rs t n1).length=n1:=by
 simp [part];omega
theorem part_lies {w:World} {g:Nat} {rs:List Int} (h:Own w g rs) {t n1:Nat} (hl:t+n1≤rs.length):Lies w (some ⟨g,t,none⟩) (part rs t n1):=by
 refine .inr ⟨g,t,rfl,fun i hi=>?_⟩
 rw [part_length hl] at hi
 rw [h.cell (t+i) (by omega)]
 have e:(part rs t n1).getD i 0=rs.getD (t+i) 0:=by
  rw [part,getD_take,if_pos hi]
  simp [List.getD,List.getElem?_drop]
 rw [e]
theorem part_val {rs:List Int} (hr:Limbs rs) {t n1:Nat} (hl:t+n1≤rs.length) (hv:val rs<pw (t+n1)):val rs=val (rs.take t)+pw t*val (part rs t n1):=by
 have h1:=val_drop rs t (by omega)
 have h2:val (part rs t n1)=val (rs.drop t):=by
  refine val_take_of_zero _ _ (fun j hj=>?_)
  have:=zero_of_lt hr hv (t+j) (by omega)
  simpa [List.getD,List.getElem?_drop] using this
 rw [h2]
 exact h1
theorem part_facts {rs:List Int} (hr:Limbs rs) {t m:Nat} (hl:t+(m+1)≤rs.length) {b:Int} (hb:b<pw m) (hv:val rs<pw (t+1)*b):
  val (part rs t (m+1))<b*18446744073709551616∧val rs<pw (t+m+1)∧∀x,0≤x→x*(pw t*b)≤val rs→x*b≤val (part rs t (m+1)):=by
 have hp:=pw_pos t
 have hq:=pw_pos (t+1)
 have h0:val rs<pw (t+m+1):=by
  have:pw (t+1)*b≤pw (t+1)*pw m:=Int.mul_le_mul_of_nonneg_left (by omega) (by omega)
  rw [←pw_add,show t+1+m=t+m+1 by omega] at this
  omega
 have h1:=part_val hr hl h0
 have h2:=val_bd _ (hr.take t)
 rw [List.length_take,Nat.min_eq_left (by omega)] at h2
 refine ⟨?_,h0,fun x x0 hx=>?_⟩
 ·rcases (show val (part rs t (m+1))<b*18446744073709551616∨b*18446744073709551616≤val (part rs t (m+1)) by omega) with c | c
  ·exact c
  ·exfalso
   have:=Int.mul_le_mul_of_nonneg_left c (show 0≤pw t by omega)
   rw [pw_succ] at hv
   have e:pw t*(b*18446744073709551616)=18446744073709551616*pw t*b:=by rw [Int.mul_left_comm,Int.mul_comm b,Int.mul_comm (pw t)]
   omega
 ·rcases (show x*b≤val (part rs t (m+1))∨val (part rs t (m+1))+1≤x*b by omega) with c | c
  ·exact c
  ·exfalso
   have:=Int.mul_le_mul_of_nonneg_left c (show 0≤pw t by omega)
   rw [Int.mul_add,Int.mul_one] at this
   have e:x*(pw t*b)=pw t*(x*b):=Int.mul_left_comm _ _ _
   omega
end Qd
structure DivI (w:World) (g g2 R K:Nat) (A b:Int) (j:Nat) (os rs:List Int) (wr:World):Prop where
 own:Own wr g rs
 len:rs.length=R
 lim:Nm.Limbs rs
 own2:Own wr g2 os
 len2:os.length=K
 lim2:Nm.Limbs os
 zero:∀i,i<j→os.getD i 0=0
 eq:Nm.val os*b+Nm.val rs=A
 lt:Nm.val rs<Nm.pw j*b
 low:Below g w wr
structure Digit (w:World) (g g2 R t top:Nat) (os:List Int) (R0 b d owed:Int) (rs:List Int) (wr:World):Prop where
 own:Own wr g rs
 len:rs.length=R
 lim:Nm.Limbs rs
 own2:Own wr g2 (os.set t d)
 dbd:0≤d∧d<18446744073709551616
 obd:0≤owed∧owed≤1
 eq:Nm.val rs+Nm.pw t*(b*d)=R0+Nm.pw top*owed
 high:∀i,top≤i→rs.getD i 0=0
 least:∀x,0≤x→x*(Nm.pw t*b)≤R0→x≤d
 low:Below g w wr
theorem Digit.lt {w:World} {g g2 R t top:Nat} {os:List Int} {R0 b d owed:Int} {rs:List Int} {wr:World} (h:Digit w g g2 R t top os R0 b d owed rs wr):Nm.val rs<Nm.pw top:=by
 have h1:=Nm.val_take_of_zero rs top h.high
 have h2:=(Nm.val_bd _ (h.lim.take top)).2
 have h3:(rs.take top).length≤top:=by simp;omega
 have h4:=Nm.pw_mono h3
 omega
theorem Digit.great {w:World} {g g2 R t top:Nat} {os:List Int} {R0 b d:Int} {rs:List Int} {wr:World} (h:Digit w g g2 R t top os R0 b d 1 rs wr) (hR:0≤R0) (hb:0≤b):1≤d∧∀x,0≤x→x*(Nm.pw t*b)≤R0→x≤d - 1:=by
 have h1:=h.lt
 have h2:=h.eq
 rw [Int.mul_one] at h2
 have hd:=h.dbd
 have hp:=Nm.pw_pos t
 have h3:1≤d:=by
  rcases (show d=0∨1≤d by omega) with c | c
  ·rw [c,Int.mul_zero,Int.mul_zero] at h2;omega
  ·exact c
 refine ⟨h3,fun x x0 hx=>?_⟩
 rcases (show x≤d - 1∨d≤x by omega) with c | c
 ·exact c
 ·exfalso
  have e1:d*(Nm.pw t*b)≤x*(Nm.pw t*b):=Int.mul_le_mul_of_nonneg_right c (Int.mul_nonneg (by omega) hb)
  have e2:d*(Nm.pw t*b)=Nm.pw t*(b*d):=by rw [Int.mul_left_comm,Int.mul_comm d b]
  omega
theorem Digit.done {w:World} {g g2 R K t top:Nat} {os rs0:List Int} {A b d:Int} {rs:List Int} {wr wr0:World} (h:Digit w g g2 R t top os (Nm.val rs0) b d 0 rs wr) (I:DivI w g g2 R K A b (t+1) os rs0 wr0) (ht:t<K):
  DivI w g g2 R K A b t (os.set t d) rs wr:=by
 have h2:=h.eq
 rw [Int.mul_zero,Int.add_zero] at h2
 refine ⟨h.own,h.len,h.lim,h.own2,by simpa using I.len2,I.lim2.set t h.dbd.1 h.dbd.2,fun i hi=>?_,?_,?_,h.low⟩
 ·rw [Nm.getD_set _ _ _ _ (by have:=I.len2;omega),if_neg (by omega)]
  exact I.zero i (by omega)
 ·rw [Nm.val_set _ _ _ (by have:=I.len2;omega),I.zero t (by omega),Int.sub_zero,Int.add_mul,Int.mul_assoc,Int.mul_comm d b]
  have:=I.eq
  omega
 ·rcases (show Nm.val rs<Nm.pw t*b∨Nm.pw t*b≤Nm.val rs by omega) with c | c
  ·exact c
  ·exfalso
   have:=h.least (d+1) (by have:=h.dbd;omega) (by rw [Int.add_mul,Int.one_mul,Int.mul_left_comm,Int.mul_comm d b];omega)
   omega
theorem digit_first {w wr0 w2 w':World} {g g2 R K t m:Nat} {os rs0 rs:List Int} {A b d c:Int} (I:DivI w g g2 R K A b (t+1) os rs0 wr0) (hg:g2≠g) (h2:Own w2 g2 (os.set t d)) (hb2:Below g w w2) (hd:0≤d∧d<18446744073709551616) (hc:0≤c∧c≤1)
  (hlt:Nm.val rs0<Nm.pw (t+m+1)) (hle:∀x,0≤x→x*(Nm.pw t*b)≤Nm.val rs0→x≤d)
  (P:PartInv g R (t+m+1) w2 rs0 (Nm.val rs0+Nm.pw t*(-(b*d))) (t+m+1) (-c) rs w'):Digit w g g2 R t (t+m+1) os (Nm.val rs0) b d c rs w':=by
 have hP:=P
 obtain ⟨⟨p1,p2,p3,p4,p5,p6⟩,p7,p8⟩:=P
 refine ⟨p1,p2,p3,hP.own h2 hg,hd,hc,?_,fun i hi=>?_,hle,hb2.trans p5⟩
 ·rw [Int.mul_neg,Int.mul_neg] at p4
  omega
 ·rw [p7 i hi]
  exact Nm.zero_of_lt I.lim hlt i hi
theorem digit_next {w wr w2 w':World} {g g2 R t top:Nat} {os rs rs':List Int} {R0 b d c:Int} (D:Digit w g g2 R t top os R0 b d 1 rs wr) (hR:0≤R0) (hb:0≤b) (hg:g2≠g) (h2:Own w2 g2 (os.set t (d - 1))) (hb2:Below g w w2) (hc:0≤c∧c≤1)
  (P:PartInv g R top w2 rs (Nm.val rs+Nm.pw t*b) top c rs' w'):Digit w g g2 R t top os R0 b (d - 1) (1 - c) rs' w':=by
 have hP:=P
 obtain ⟨⟨p1,p2,p3,p4,p5,p6⟩,p7,p8⟩:=P
 have hgr:=D.great hR hb
 have hd:=D.dbd
 have he:=D.eq
 refine ⟨p1,p2,p3,hP.own h2 hg,by omega,by omega,?_,fun i hi=>by rw [p7 i hi];exact D.high i hi,hgr.2,hb2.trans p5⟩
 rw [Int.mul_sub,Int.mul_one,Int.mul_sub,Int.mul_sub,Int.mul_one]
 rw [Int.mul_one] at he
 omega
set_option maxRecDepth 100000 in
set_option maxHeartbeats 2000000 in
theorem divide_any (g R K k m cap':Nat) (rs0:List Int) (q:Option Addr) (bs:List Int) (w:World) (ho:Own w g rs0) (hR:rs0.length=R) (hRm:R≤35184372088832) (hl:Nm.Limbs rs0) (hm:m=k+2) (hK:R=K+m) (lb:bs.length=m) (hc':m≤cap') (hm':cap'≤140737488355328)
  (hy:Lies w q bs) (hlb:Nm.Limbs bs) (hq:∀a,q=some a→a.block<g) (htop:bs.getD (k+1) 0≠0) (hlt:Nm.val rs0<Nm.pw K*Nm.val bs):
  Calls Tryz.prog 323 #[.slice (some ⟨g,0,none⟩) R R,.slice q m cap'] w fun e w'=>∃os rs,e=.returned (.slice (some ⟨w.heap.size,0,none⟩) K K)∧Hid (DivI w g w.heap.size R K (Nm.val rs0) (Nm.val bs) 0 os rs w'):=by
 have hgw:=ho.lt
 have r1:(R:Int) - (m:Int)=(K:Int):=by omega
 have hmk:=make64 K (by omega) w
 have hb0:Below g w (w.alloc (.cells (madeCells #[.int .u64 0] K) 24)):=(Below.refl _ _).alloc (by omega) _
 have hbw:Below w.heap.size w (w.alloc (.cells (madeCells #[.int .u64 0] K) 24)):=(Below.refl _ _).alloc (Nat.le_refl _) _
 have ho2:Own (w.alloc (.cells (madeCells #[.int .u64 0] K) 24)) w.heap.size (List.replicate K 0):=by
  rw [made_zero];exact Own.alloc w _
 obtain ⟨W0,hW0⟩:∃W0,w.alloc (.cells (madeCells #[.int .u64 0] K) 24)=W0:=⟨_,rfl⟩
 rw [hW0] at hmk hb0 hbw ho2
 clear hW0
 have I0:DivI w g w.heap.size R K (Nm.val rs0) (Nm.val bs) K (List.replicate K 0) rs0 W0:=
  ⟨ho.below hbw hgw,hR,hl,ho2,by simp,Nm.Limbs.replicate _,fun i _=>getD_replicate _ _,by rw [Nm.val_replicate,Int.zero_mul,Int.zero_add],hlt,hb0⟩
 have B0:=(Nm.val_bd bs hlb).1
 have B1:=(Nm.val_bd bs hlb).2
 rw [lb] at B1
 have HI0:=hid I0
 have HB0:=hid B0
 have HB1:=hid B1
 have HY:=hid hy
 have HLB:=hid hlb
 have HQ:=hid hq
 have HT:=hid htop
 have HM:=hid hm
 have HKK:=hid hK
 have HL:=hid lb
 obtain ⟨g2,hg2⟩:∃g2,w.heap.size=g2:=⟨_,rfl⟩
 rw [hg2] at HI0 hmk hgw ⊢
 have hgg:g2≠g:=by omega
 clear I0 B0 B1 hy hlb hq htop hm hK lb ho hR hl hlt hb0 hbw ho2 hg2
 go_enter Tryz.func323,Tryz.ntmps323
 go_wp2_with fail
 go_step3
 go_wp2_with fail
 go_step3
 go_wp2_with fail
 go_loopg [6] K (fun j i wr=>∃(os rs:List Int),j≤K∧i=.int .i64 ((j:Int) - 1)∧Hid (DivI w g g2 R K (Nm.val rs0) (Nm.val bs) j os rs wr))
 case atStart=>exact ⟨_,_,Nat.le_refl _,rfl,HI0.out⟩
 case round=>
  clear HI0 hmk
  obtain ⟨os,rs,hj,rfl,I⟩:=hrel
  cases gk with
  | zero=>
   go_wp2
   try rw [Exit.noGoto_ret]
   go_ret
   exact ⟨os,rs,rfl,I.out⟩
  | succ t=>
   have LR:Hid (t+(m+1)≤rs.length):=by show _≤_;have:=I.out.len;have:=HKK.out;omega
   obtain ⟨f1,f2,f3⟩:=Qd.part_facts I.out.lim LR.out HB1.out I.out.lt
   have htK:(t:Int)<(K:Int):=by omega
   have htR:t+m+1≤R:=by have:=HKK.out;omega
   have GU:=guess_any (some ⟨g,t,none⟩) q k m (m+1) (R - t) cap' (Qd.part rs t (m+1)) bs wr HM.out (by rw [HM.out]) HL.out (Qd.part_length LR.out) (by omega) hc' (by omega) hm' (Qd.part_lies I.out.own LR.out) (HY.out.low I.out.low HQ.out) ((I.out.lim.drop t).take _) HLB.out HT.out f1
   have F2:=hid f2
   have F3:=hid f3
   have HGU:=hid GU
   clear f1 f2 f3 GU
   go_wp2_with fail
   rw [show t+m+1 - t=m+1 by omega]
   refine HGU.out.mono ?_
   rintro e w1 ⟨d,rfl,⟨d0,d1⟩,DL,hb1⟩
   have o1:=I.out.own.below hb1 I.out.own.lt
   have o2:=I.out.own2.below hb1 I.out.own2.lt
   have HB2:=hid (I.out.low.trans (hb1.mono (Nat.le_of_lt I.out.own.lt)))
   obtain ⟨y,hyc⟩:∃y,w1.cell? ⟨g2,t,none⟩=some (.int .u64 y):=⟨_,o2.cell t (by have:=I.out.len2;omega)⟩
   have hfr:=o2.free t
   have O1:=hid (o1.other hgg t (.int .u64 d))
   have O2:=hid (o2.set t d)
   have HB3:=hid (HB2.out.setCell (p:=⟨g2,t,none⟩) (by show g≤g2;omega) (.int .u64 d))
   have LEAST:Hid (∀x,0≤x→x*(Nm.pw t*Nm.val bs)≤Nm.val rs→x≤d):=fun x x0 hx=>DL.out x x0 (F3.out x x0 hx)
   have hcell:(w1.setCell ⟨g2,t,none⟩ (.int .u64 d)).cell? ⟨g2,t,none⟩=some (.int .u64 d):=by
    rw [O2.out.cell t (by have:=I.out.len2;simp;omega),Nm.getD_set _ _ _ _ (by have:=I.out.len2;omega),if_pos rfl]
   clear hb1 o1 o2 HGU DL
   go_wp2_with fail
   refine (takeTimes_any g R t m (m+1) _ rs q _ bs d _ I.out.len hRm O1.out I.out.lim HL.out (by have:=HM.out;omega) (by omega) (by omega) (HY.out.low HB3.out HQ.out) HLB.out HQ.out d0 d1).mono ?_
   rintro e w2 ⟨c,rs1,rfl,⟨c0,c1⟩,P⟩
   have DG:=hid (digit_first I.out hgg O2.out HB3.out ⟨d0,d1⟩ ⟨c0,c1⟩ F2.out LEAST.out P.out)
   clear P hcell hyc hfr O1 O2 HB2 HB3 LEAST
   go_wp2_with fail
   go_loopg [8] d.toNat (fun x c wr=>∃(d owed:Int) (rs1:List Int),c=.int .u64 owed∧Hid (x=d.toNat)∧Hid (Digit w g g2 R t (t+m+1) os (Nm.val rs) (Nm.val bs) d owed rs1 wr))
   case atStart=>exact ⟨d,c,rs1,rfl,rfl,DG.out⟩
   case round=>
    clear DG c0 c1 d0 d1
    obtain ⟨d,owed,rs1,rfl,GK,D⟩:=hrel
    have ob:=D.out.obd
    rcases (show owed=0∨owed=1 by omega) with rfl | rfl
    ·have DN:=hid (D.out.done I.out (by omega))
     clear ob
     go_wp2
     go_roundg t
     case measure=>omega
     case rel=>exact ⟨_,_,by omega,by go_num,DN.out⟩
    ·clear ob
     have hV:=(Nm.val_bd rs I.out.lim).1
     obtain ⟨g1,_⟩:=D.out.great hV HB0.out
     have db:=D.out.dbd.2
     have hlen:t<(os.set t d).length:=by have:=I.out.len2;simp;omega
     obtain ⟨y,hyc,Y⟩:∃y,wr.cell? ⟨g2,t,none⟩=some (.int .u64 y)∧Hid (y=d):=⟨_,D.out.own2.cell t hlen,by show _=_;rw [Nm.getD_set _ _ _ _ (by simpa using hlen),if_pos rfl]⟩
     have hyd:=Y.out
     subst hyd
     have hfr:=D.out.own2.free t
     have o2:=D.out.own2.set t (y - 1)
     rw [List.set_set] at o2
     have O1:=hid (D.out.own.other hgg t (.int .u64 (y - 1)))
     have O2:=hid o2
     have HB3:=hid (D.out.low.setCell (p:=⟨g2,t,none⟩) (by show g≤g2;omega) (.int .u64 (y - 1)))
     have HV:=hid hV
     clear o2 hlen hV
     go_wp2_with fail
     refine (giveBack_any g R t m (m+1) _ rs1 q _ bs _ D.out.len hRm O1.out D.out.lim HL.out (by have:=HM.out;omega) (by omega) (by omega) (HY.out.low HB3.out HQ.out) HLB.out HQ.out).mono ?_
     rintro e w2 ⟨c,rs2,rfl,⟨c0,c1⟩,P⟩
     have DN:=hid (digit_next D.out HV.out HB0.out hgg O2.out HB3.out ⟨c0,c1⟩ P.out)
     clear P hyc hfr O1 O2 HB3
     go_wp2_with fail
     go_roundg (y - 1).toNat
     case measure=>have:=GK.out;omega
     case rel=>exact ⟨y - 1,1 - c,rs2,rfl,rfl,DN.out⟩
end Go.Proofs.YtbdhlfklcdegdaaGreatDoor

namespace Go.Proofs.YtbdhlfklcdegdaaGreatDoor
open Go.RowKit Go.Deep
theorem Arg.drew {w:World} {p:Option Addr} {n cap:Nat} {zs:List Int} (h:Arg w p n cap zs) (k:Nat):Arg (w.drewN k) p n cap zs:=h
theorem Arg.cut {w:World} {p:Option Addr} {n cap:Nat} {zs:List Int} (h:Arg w p n cap zs):Arg w p (Nm.tsize zs) cap (Nm.trim zs):=
 ⟨Nm.trim_length zs,by have:=h.tl;have:=h.2.1;omega,h.2.2.1,h.2.2.2.1.trim,h.2.2.2.2.trim⟩
def Splits (A B:Int) (w:World) (e:Ending) (w':World):Prop:=
 ∃r1 os r2 rs,e=.returned (.tuple #[.slice r1 (List.length os) (List.length os),.slice r2 (List.length rs) (List.length rs),.int .i64 0])∧Ans w.heap.size w' r1 os (A/B)∧Ans w.heap.size w' r2 rs (A%B)∧Below w.heap.size w w'
theorem div_is {A B q r:Int} (h0:0≤r) (h1:r<B) (h:q*B+r=A):A/B=q∧A%B=r:=by
 have hB:0<B:=by omega
 have h2:A/B=q:=by
  rw [←h,Int.add_comm,Int.add_mul_ediv_right _ _ (by omega),Int.ediv_eq_zero_of_lt h0 h1,Int.zero_add]
 refine ⟨h2,?_⟩
 have:=Int.emod_add_mul_ediv A B
 rw [h2,Int.mul_comm] at this
 omega
theorem limbs_is (p:Option Addr) (n cap:Nat) (zs:List Int) (N:Nat) (w:World) (ha:Arg w p n cap zs) (hN:Nm.tsize zs=N):
  Calls Tryz.prog 307 #[.slice p n cap] w fun e w'=>e=.returned (.int .i64 (N:Int))∧w'=w:=by
 rw [←hN]
 exact limbs_any p n cap zs w ha
end Go.Proofs.YtbdhlfklcdegdaaGreatDoor

namespace Go.Proofs.YtbdhlfklcdegdaaGreatDoor
open Go.RowKit Go.Deep
theorem eq_of_getD {a b:List Int} (hl:a.length=b.length) (h:∀i,i<a.length→a.getD i 0=b.getD i 0):a=b:=by
 have e:=Nm.drop_eq_of_getD hl 0 (fun j _=>by
  by_cases hj:j<a.length
  ·exact h j hj
  ·rw [List.getD,List.getElem?_eq_none (by omega),List.getD,List.getElem?_eq_none (by omega)])
 simpa using e
set_option maxRecDepth 100000 in
set_option maxHeartbeats 1000000 in
theorem short_any (p:Option Addr) (n cap:Nat) (zs:List Int) (N:Nat) (w:World) (hn:zs.length=n) (hm:n≤17592186044416) (h:Lies w p zs) (hN:Nm.tsize zs=N):
  Calls Tryz.prog 303 #[.slice p n cap] w fun e w'=>e=.returned (.slice (some ⟨w.heap.size,0,none⟩) N N)∧Own w' w.heap.size (Nm.trim zs)∧Below w.heap.size w w':=by
 have T:=top_any p n cap zs w hn (by omega) h
 rw [hN] at T
 have HT:=hid T
 have tl:=Nm.tsize_le zs
 have hNn:N≤n:=by omega
 have hmk:=make64 N (by omega) w
 have ho:Own (w.alloc (.cells (madeCells #[.int .u64 0] N) 24)) w.heap.size (List.replicate N 0):=by
  rw [made_zero];exact Own.alloc w _
 have hb0:Below w.heap.size w (w.alloc (.cells (madeCells #[.int .u64 0] N) 24)):=(Below.refl _ _).alloc (Nat.le_refl _) _
 obtain ⟨W0,hW0⟩:∃W0,w.alloc (.cells (madeCells #[.int .u64 0] N) 24)=W0:=⟨_,rfl⟩
 rw [hW0] at hmk ho hb0
 have LT:=hid ((Nm.trim_length zs).trans hN)
 have TG:Hid (∀i,i<N→(Nm.trim zs).getD i 0=zs.getD i 0):=fun i hi=>by rw [Nm.trim,Nm.getD_take,if_pos (by omega)]
 have HO:=hid ho
 have HB0:=hid hb0
 have HN:=hid hn
 have HL:=hid h
 clear hW0 ho hb0 T tl hN hn h
 by_cases h0:N=0
 ·subst h0
  have E:Hid (Own W0 w.heap.size (Nm.trim zs)):=by
   rw [List.eq_nil_of_length_eq_zero LT.out]
   exact HO.out
  have hmk1:(Instr.makeSlice 50 (.int .i64 0) (.int .i64 0)).run Tryz.prog w=.ok (.slice (some ⟨w.heap.size,0,none⟩) 0 0) W0:=hmk
  clear hmk
  go_enter Tryz.func303,Tryz.ntmps303
  go_wp2_with fail
  refine HT.out.mono ?_
  rintro e w' ⟨rfl,rfl⟩
  go_wp2_with fail
  refine wp_loop_rounds 1 ?_
  rw [rounds_succ]
  go_wp2_with fail
  go_ret
  exact ⟨rfl,E.out,HB0.out⟩
 ·obtain ⟨b,off,rfl,hbw,HC⟩:=HL.out.at (by have:=HN.out;omega)
  go_enter Tryz.func303,Tryz.ntmps303
  go_wp2_with fail
  refine HT.out.mono ?_
  rintro e w' ⟨rfl,rfl⟩
  go_wp2_with fail
  go_loopw [5] (fun i wr=>∃(j:Nat) (os:List Int),j≤N∧i=.int .i64 j∧Hid (Own wr w'.heap.size os∧os.length=N∧(∀t,t<j→os.getD t 0=zs.getD t 0)∧Below w'.heap.size w' wr)) (fun i _=>N - (intOf i).toNat)
  case atStart=>exact ⟨0,_,Nat.zero_le _,rfl,HO.out,by simp,fun t ht=>by omega,HB0.out⟩
  case round=>
   clear hmk HO HB0
   obtain ⟨j,os,hj,rfl,I⟩:=hrel
   by_cases hlt:j<N
   ·obtain ⟨i1,i2,i3,i4⟩:=I.out
    obtain ⟨x,hx,X⟩:∃x,wr.cell? ⟨b,off+j,none⟩=some (.int .u64 x)∧Hid (x=zs.getD j 0):=⟨_,(i4.cell (p:=⟨b,off+j,none⟩) hbw).trans (HC.out j (by have:=HN.out;omega)),rfl⟩
    obtain ⟨y,hy⟩:∃y,wr.cell? ⟨w'.heap.size,j,none⟩=some (.int .u64 y):=⟨_,i1.cell j (by omega)⟩
    have hfr:=i1.free j
    have J:Hid (Own (wr.setCell ⟨w'.heap.size,j,none⟩ (.int .u64 x)) w'.heap.size (os.set j x)∧(os.set j x).length=N∧(∀t,t<j+1→(os.set j x).getD t 0=zs.getD t 0)∧Below w'.heap.size w' (wr.setCell ⟨w'.heap.size,j,none⟩ (.int .u64 x))):=by
     refine ⟨i1.set j x,by simpa using i2,fun t ht=>?_,i4.setCell (p:=⟨w'.heap.size,j,none⟩) (Nat.le_refl _) _⟩
     rw [Nm.getD_set _ _ _ _ (by omega)]
     by_cases e:t=j
     ·rw [if_pos e,e,X.out]
     ·rw [if_neg e];exact i3 t (by omega)
    have hjn:(j:Int)<(n:Int):=by omega
    have hjN:(j:Int)<(N:Int):=by omega
    clear i1 i2 i3 i4 I
    go_wp2
    go_roundw
    case rel=>exact ⟨j+1,_,by omega,by go_num,J.out⟩
    case measure=>simp [intOf];omega
   ·have hjN:j=N:=by omega
    subst hjN
    have E:Hid (Own wr w'.heap.size (Nm.trim zs)∧Below w'.heap.size w' wr):=by
     obtain ⟨i1,i2,i3,i4⟩:=I.out
     have e:os=Nm.trim zs:=eq_of_getD (by rw [i2,LT.out]) (fun i hi=>by rw [i3 i (by omega),TG.out i (by omega)])
     rw [←e]
     exact ⟨i1,i4⟩
    clear I
    go_wp2
    go_ret
    exact ⟨rfl,E.out.1,E.out.2⟩
theorem twice_limb (x sp:Int) (x0:0≤x) (x1:x<18446744073709551616) (s0:0≤sp) (s1:sp≤1):
  ∃A s sp',IntKind.u64.wrap (x*2)=A∧bits .or .u64 A sp=s∧x/9223372036854775808=sp'∧(0≤s∧s<18446744073709551616)∧(0≤sp'∧sp'≤1)∧Hid (s+18446744073709551616*sp'=x*2+sp):=by
 obtain ⟨A,s,sp',u1,u2,u3,u4,u5,u6⟩:=Sh.up x sp 1 (by omega) x0 x1 s0 (by rw [show (2:Int)^1=2 by decide];omega)
 have e1:(2:Int)^1=2:=by decide
 have e2:(2:Int)^(64 - 1)=9223372036854775808:=by decide
 rw [e1] at u1 u5 u6
 rw [e2] at u3
 exact ⟨A,s,sp',u1,u2,u3,u4,by omega,u6⟩
set_option maxRecDepth 100000 in
set_option maxHeartbeats 1000000 in
theorem doubled_any (p:Option Addr) (n cap:Nat) (zs:List Int) (bit:Int) (w:World) (hn:zs.length=n) (hm:n≤17592186044416) (h:Lies w p zs) (hz:Nm.Limbs zs) (b0:0≤bit) (b1:bit≤1):
  Calls Tryz.prog 290 #[.slice p n cap,.int .u64 bit] w fun e w'=>∃os,e=.returned (.slice (some ⟨w.heap.size,0,none⟩) (n+1) (n+1))∧Hid (Own w' w.heap.size os∧os.length=n+1∧Nm.Limbs os∧Nm.val os=2*Nm.val zs+bit∧Below w.heap.size w w'):=by
 have hmk:=make64 (n+1) (by omega) w
 have em:((n+1:Nat):Int)=(n:Int)+1:=by omega
 rw [em] at hmk
 clear em
 have ho:Own (w.alloc (.cells (madeCells #[.int .u64 0] (n+1)) 24)) w.heap.size (List.replicate (n+1) 0):=by
  rw [made_zero];exact Own.alloc w _
 have hb0:Below w.heap.size w (w.alloc (.cells (madeCells #[.int .u64 0] (n+1)) 24)):=(Below.refl _ _).alloc (Nat.le_refl _) _
 obtain ⟨W0,hW0⟩:∃W0,w.alloc (.cells (madeCells #[.int .u64 0] (n+1)) 24)=W0:=⟨_,rfl⟩
 rw [hW0] at hmk ho hb0
 have I0:MaInv w.heap.size (n+1) W0 (2*Nm.val (zs.take 0)+bit) 0 bit (List.replicate (n+1) 0) W0:=
  ⟨⟨ho,by simp,Nm.Limbs.replicate _,by simp [Nm.val_replicate,Nm.val,Nm.pw],Below.refl _ _,rfl⟩,by omega,fun i _=>getD_replicate _ _⟩
 have HB0:=hid hb0
 have HN:=hid hn
 have HL:=hid h
 have HZ:=hid hz
 have HI0:=hid I0
 clear hW0 ho hb0 hn h hz I0
 by_cases h0:n=0
 ·subst h0
  have E:Hid (Own (W0.setCell ⟨w.heap.size,0,none⟩ (.int .u64 bit)) w.heap.size ((List.replicate 1 0).set 0 bit)∧((List.replicate 1 (0:Int)).set 0 bit).length=0+1∧Nm.Limbs ((List.replicate 1 0).set 0 bit)∧Nm.val ((List.replicate 1 0).set 0 bit)=2*Nm.val zs+bit∧Below w.heap.size w (W0.setCell ⟨w.heap.size,0,none⟩ (.int .u64 bit))):=by
   refine ⟨HI0.out.1.1.set 0 bit,by simp,HI0.out.1.2.2.1.set 0 b0 (by omega),?_,HB0.out.setCell (p:=⟨w.heap.size,0,none⟩) (Nat.le_refl _) _⟩
   rw [List.eq_nil_of_length_eq_zero HN.out]
   simp [Nm.val]
  obtain ⟨y,hy⟩:∃y,W0.cell? ⟨w.heap.size,0,none⟩=some (.int .u64 y):=⟨_,HI0.out.1.1.cell 0 (by simp)⟩
  have hfr:=HI0.out.1.1.free 0
  have hmk1:(Instr.makeSlice 50 (.int .i64 1) (.int .i64 1)).run Tryz.prog w=.ok (.slice (some ⟨w.heap.size,0,none⟩) 1 1) W0:=hmk
  clear HI0 hmk
  go_enter Tryz.func290,Tryz.ntmps290
  go_wp2_with fail
  refine wp_loop_rounds 1 ?_
  rw [rounds_succ]
  go_wp2_with fail
  go_ret
  exact ⟨_,rfl,E⟩
 ·obtain ⟨b,off,rfl,hbw,HC⟩:=HL.out.at (by have:=HN.out;omega)
  go_enter Tryz.func290,Tryz.ntmps290
  go_wp2_with fail
  go_loopw [6,7] (fun c i wr=>∃(j:Nat) (cc:Int) (os:List Int),j≤n∧i=.int .i64 j∧c=.int .u64 cc∧(0≤cc∧cc≤1)∧Hid (MaInv w.heap.size (n+1) W0 (2*Nm.val (zs.take j)+bit) j cc os wr)) (fun _ i _=>n - (intOf i).toNat)
  case atStart=>exact ⟨0,bit,_,Nat.zero_le _,rfl,rfl,⟨b0,b1⟩,HI0.out⟩
  case round=>
   clear HI0 hmk
   obtain ⟨j,cc,os,hj,rfl,rfl,⟨c0,c1⟩,I⟩:=hrel
   by_cases hlt:j<n
   ·obtain ⟨x,hx,X⟩:∃x,wr.cell? ⟨b,off+j,none⟩=some (.int .u64 x)∧Hid (x=zs.getD j 0):=⟨_,((HB0.out.trans I.out.1.2.2.2.2.1).cell (p:=⟨b,off+j,none⟩) hbw).trans (HC.out j (by have:=HN.out;omega)),rfl⟩
    have hx0:=HZ.out.at j
    rw [←X.out] at hx0
    obtain ⟨hx0,hx1⟩:=hx0
    obtain ⟨y,hyc⟩:∃y,wr.cell? ⟨w.heap.size,j,none⟩=some (.int .u64 y):=⟨_,I.out.1.1.cell j (by have:=I.out.1.2.1;omega)⟩
    have hfr:=I.out.1.1.free j
    obtain ⟨A,s,sp',u1,u2,u3,us,usp,E⟩:=twice_limb x cc hx0 hx1 c0 c1
    have I2:=I.out.step (by omega) (x:=x*2) (s:=s) (c':=sp') us ⟨usp.1,by omega⟩ E.out
    have T2:2*Nm.val (zs.take j)+bit+Nm.pw j*(x*2)=2*Nm.val (zs.take (j+1))+bit:=by
     rw [Nm.val_take_succ zs j (by have:=HN.out;omega),←X.out,←Int.mul_assoc]
     omega
    rw [T2] at I2
    have HI2:=hid I2
    have HU:=hid usp
    obtain ⟨y2,hx2⟩:∃y2,(wr.setCell ⟨w.heap.size,j,none⟩ (.int .u64 s)).cell? ⟨b,off+j,none⟩=some (.int .u64 y2)∧y2=x:=⟨x,by
     have hb:Below w.heap.size wr (wr.setCell ⟨w.heap.size,j,none⟩ (.int .u64 s)):=(Below.refl _ _).setCell (p:=⟨w.heap.size,j,none⟩) (Nat.le_refl _) _
     rw [hb.cell (p:=⟨b,off+j,none⟩) hbw]
     exact hx,rfl⟩
    obtain ⟨hx2,e2⟩:=hx2
    subst e2
    have hjn:(j:Int)<(n:Int):=by omega
    have hjn1:(j:Int)<(n:Int)+1:=by omega
    clear T2 E I2 us usp I
    go_wp2
    go_roundw
    case rel=>exact ⟨j+1,sp',_,by omega,by go_num,rfl,HU.out,HI2.out⟩
    case measure=>simp [intOf];omega
   ·have hjn:j=n:=by omega
    subst hjn
    obtain ⟨⟨i1,i2,i3,i4,i5,i6⟩,i7,i8⟩:=I.out
    have E:Hid (Own (wr.setCell ⟨w.heap.size,j,none⟩ (.int .u64 cc)) w.heap.size (os.set j cc)∧(os.set j cc).length=j+1∧Nm.Limbs (os.set j cc)∧Nm.val (os.set j cc)=2*Nm.val zs+bit∧Below w.heap.size w (wr.setCell ⟨w.heap.size,j,none⟩ (.int .u64 cc))):=by
     refine ⟨i1.set j cc,by simpa using i2,i3.set j c0 (by omega),?_,(HB0.out.trans i5).setCell (p:=⟨w.heap.size,j,none⟩) (Nat.le_refl _) _⟩
     rw [Nm.val_set _ _ _ (by omega),i8 j (Nat.le_refl _),Int.sub_zero,i4,List.take_of_length_le (by have:=HN.out;omega)]
    obtain ⟨y,hy⟩:∃y,wr.cell? ⟨w.heap.size,j,none⟩=some (.int .u64 y):=⟨_,i1.cell j (by omega)⟩
    have hfr:=i1.free j
    clear i1 i2 i3 i4 i5 i6 i7 i8 I
    go_wp2
    go_ret
    exact ⟨_,rfl,E⟩
end Go.Proofs.YtbdhlfklcdegdaaGreatDoor
