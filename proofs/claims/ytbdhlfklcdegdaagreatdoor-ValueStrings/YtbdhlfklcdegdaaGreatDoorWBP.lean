/-
  Texts put together: QTimes2, QRPow.
-/
import Derived.Test.YtbdhlfklcdegdaaGreatDoorWBJ
import Derived.BigRegion
import Derived.Test.YtbdhlfklcdegdaaGreatDoorWAW
namespace Go.Proofs.YtbdhlfklcdegdaaGreatDoor
open Go.RowKit Go.Deep
def JoinInv (g H:Nat) (w:World) (ps:List Int) (j:Nat) (os:List Int) (wr:World):Prop:=
 Own wr g os∧os.length=H∧Nm.Limbs os∧Nm.val os=Nm.v32 (ps.take (2*j))∧(∀i,j≤i→os.getD i 0=0)∧Below g w wr
theorem JoinInv.step {g H:Nat} {w:World} {ps:List Int} {j:Nat} {os:List Int} {wr wq:World} {x y z:Int} (h:JoinInv g H w ps j os wr) (hb:Below wr.heap.size wr wq) (hj:j<H) (hx:x=ps.getD (2*j) 0) (hy:y=ps.getD (2*j+1) 0) (hz:z=x+4294967296*y) (z0:0≤z) (z1:z<18446744073709551616):
  JoinInv g H w ps (j+1) (os.set j z) (wq.setCell ⟨g,j,none⟩ (.int .u64 z)):=by
 obtain ⟨h1,h2,h3,h4,h5,h6⟩:=h
 have hlt:=h1.lt
 refine ⟨(h1.below hb hlt).set j z,by simpa using h2,h3.set j z0 z1,?_,fun i hi=>?_,(h6.trans (hb.mono (Nat.le_of_lt hlt))).setCell (p:=⟨g,j,none⟩) (Nat.le_refl _) _⟩
 ·rw [Nm.val_set _ _ _ (by omega),h5 j (Nat.le_refl _),Int.sub_zero,h4,show 2*(j+1)=2*j+1+1 by omega,Nm.v32_take_nextT,Nm.v32_take_nextT,←hx,←hy,hz]
  simp only [Nm.p32,Nm.p32_two]
  rw [Int.mul_add,Int.mul_left_comm,Int.mul_assoc]
  omega
 ·rw [Nm.getD_set _ _ _ _ (by omega),if_neg (by omega)]
  exact h5 i (by omega)
theorem or32 (x y:Int) (x0:0≤x) (x1:x<4294967296) (y0:0≤y) (y1:y<4294967296):IntKind.u64.wrap (y*4294967296)=y*4294967296∧bits .or .u64 x (y*4294967296)=x+4294967296*y:=by
 refine ⟨by rw [wrap_mod];omega,?_⟩
 have h:=or_sum y x 32 y0 x0 (by rw [show (2:Int)^32=4294967296 by decide];exact x1) (by rw [show (2:Int)^32=4294967296 by decide];omega) (by omega)
 rw [show (2:Int)^32=4294967296 by decide] at h
 obtain ⟨a,rfl⟩:=Int.eq_ofNat_of_zero_le x0
 obtain ⟨c,rfl⟩:=Int.eq_ofNat_of_zero_le y0
 have e1:=bits_or_u64_nat a (c*4294967296) (by omega) (by omega)
 have e2:=bits_or_u64_nat (c*4294967296) a (by omega) (by omega)
 rw [Nat.or_comm] at e2
 have e3:((c*4294967296:Nat):Int)=(c:Int)*4294967296:=by omega
 rw [e3] at e1 e2
 rw [e1,←e2,h]
 omega
set_option maxRecDepth 100000 in
set_option maxHeartbeats 8000000 in
theorem refTimes_any (p q:Option Addr) (n cap m cap':Nat) (za zb:List Int) (w:World) (ha:Arg w p n cap za) (hb:Arg w q m cap' zb) (hn:Nm.tsize za≤1000000) (hm:Nm.tsize zb≤1000000):
  Calls Tryz.prog 328 #[.slice p n cap,.slice q m cap'] w fun e w'=>∃r os,e=.returned (.slice r (List.length os) (List.length os))∧Ans w.heap.size w' r os (Nm.val za*Nm.val zb)∧Below w.heap.size w w':=by
 have HA:=hid ha
 have HB0:=hid hb
 have a2:=ha.2.1
 have a3:=ha.2.2.1
 have b2:=hb.2.1
 have b3:=hb.2.2.1
 obtain ⟨N1,hN1⟩:∃N,Nm.tsize za=N:=⟨_,rfl⟩
 obtain ⟨N2,hN2⟩:∃N,Nm.tsize zb=N:=⟨_,rfl⟩
 have HN1:=hid hN1
 have HN2:=hid hN2
 have bN1:N1≤1000000:=by omega
 have bN2:N2≤1000000:=by omega
 clear ha hb hN1 hN2 hn hm
 go_enter Tryz.func328,Tryz.ntmps328
 go_wp2_with fail
 refine (halfWords_any p n cap za N1 _ HA.out.1 (by omega) HA.out.2.2.2.1 HA.out.2.2.2.2 HN1.out bN1).mono ?_
 rintro e w1 ⟨xs,g1,rfl,KX⟩
 have HB1:=hid (HB0.out.below KX.out.2.2.2.2.2 (Nat.le_refl _))
 have D1:=hid KX.out.2.2.2.2.2
 obtain ⟨l1,hl1⟩:∃l1,2*N1=l1:=⟨_,rfl⟩
 rw [hl1]
 have LX:Hid (xs.length=l1):=by rw [←hl1];exact KX.out.2.1
 have HX:=hid KX.out.2.2.1
 have VX:=hid KX.out.2.2.2.1
 have OX:=hid KX.out.1
 have HL1:=hid hl1
 clear KX HB0 hl1
 go_wp2_with fail
 refine (halfWords_any q m cap' zb N2 _ HB1.out.1 (by omega) HB1.out.2.2.2.1 HB1.out.2.2.2.2 HN2.out bN2).mono ?_
 rintro e w2 ⟨ys,g2,rfl,KY⟩
 have D2:=hid (chain D1.out KY.out.2.2.2.2.2 (Nat.le_refl _))
 obtain ⟨l2,hl2⟩:∃l2,2*N2=l2:=⟨_,rfl⟩
 rw [hl2]
 have LY:Hid (ys.length=l2):=by rw [←hl2];exact KY.out.2.1
 have HY:=hid KY.out.2.2.1
 have VY:=hid KY.out.2.2.2.1
 have OX2:=hid (OX.out.below KY.out.2.2.2.2.2 OX.out.lt)
 have OY:=hid KY.out.1
 have HL2:=hid hl2
 have bl1:l1≤2000000:=by have:=HL1.out;omega
 have bl2:l2≤2000000:=by have:=HL2.out;omega
 clear KY HB1 D1 OX hl2
 have CX:Hid (∀i,i<l1→w2.cell? ⟨g1,i,none⟩=some (.int .u64 (xs.getD i 0))):=fun i hi=>OX2.out.cell i (by have:=LX.out;omega)
 have CY:Hid (∀i,i<l2→w2.cell? ⟨g2,i,none⟩=some (.int .u64 (ys.getD i 0))):=fun i hi=>OY.out.cell i (by have:=LY.out;omega)
 obtain ⟨g,Gg⟩:∃g,Hid (w2.heap.size=g):=⟨_,rfl⟩
 have BX:Hid (∀{j:Nat},j<l1→g1<g):=fun {j} hj=>by rw [←Gg.out];exact cell_lt (CX.out j hj)
 have BY:Hid (∀{j:Nat},j<l2→g2<g):=fun {j} hj=>by rw [←Gg.out];exact cell_lt (CY.out j hj)
 have hmk:=make64 (l1+l2) (by omega) w2
 rw [show ((l1+l2:Nat):Int)=(l1:Int)+(l2:Int) by omega,Gg.out] at hmk
 have bm:=hid ((Below.refl w2.heap.size w2).alloc (Nat.le_refl _) (.cells (madeCells #[.int .u64 0] (l1+l2)) 24))
 have gm:Own (w2.alloc (.cells (madeCells #[.int .u64 0] (l1+l2)) 24)) w2.heap.size (List.replicate (l1+l2) 0):=by rw [made_zero];exact Own.alloc w2 _
 rw [Gg.out] at bm gm
 generalize w2.alloc (.cells (madeCells #[.int .u64 0] (l1+l2)) 24)=wm at hmk bm gm
 have I0:Hid (TimesInv g (l1+l2) w2 (Nm.v32 (xs.take 0)*Nm.v32 ys) 0 0 (0+l2) (List.replicate (l1+l2) 0) wm):=⟨gm,by simp,Nm.Halves.zeros _,by rw [Nm.v32_zeros];simp [Nm.v32],fun t _=>getD_replicate _ _,bm.out⟩
 clear gm bm
 go_wp2_with fail
 clear hmk
 obtain ⟨K,HK⟩:∃K,Hid (l1+l2=K):=⟨_,rfl⟩
 have I1:=I0.out
 rw [HK.out] at I1 ⊢
 have J0:=hid I1
 clear I0 I1
 have hKb:K≤4000000:=by have:=HK.out;omega
 go_loopw [8] (fun i wr=>∃(k:Nat) (ps:List Int),k≤l1∧i=.int .i64 k∧Hid (TimesInv g K w2 (Nm.v32 (xs.take k)*Nm.v32 ys) 0 k (k+l2) ps wr)) (fun i _=>l1 - (intOf i).toNat)
 case atStart=>exact ⟨0,_,Nat.zero_le _,rfl,J0.out⟩
 case round=>
  obtain ⟨k,ps,hk,rfl,TI⟩:=hrel
  by_cases hlt:k<l1
  ·have hlt':(k:Int)<(l1:Int):=by omega
   obtain ⟨x,X⟩:∃x,Hid (x=xs.getD k 0):=⟨_,rfl⟩
   have hx0:0≤x:=by have:=HX.out.at k;have:=X.out;omega
   have hx1:x<4294967296:=by have:=HX.out.at k;have:=X.out;omega
   obtain ⟨V,HV⟩:∃V,Hid (V=Nm.v32 (xs.take k)*Nm.v32 ys):=⟨_,rfl⟩
   have TJ:Hid (TimesInv g K w2 (V+Nm.p32 k*(x*Nm.v32 (ys.take 0))) 0 (k+0) (k+l2) ps wr):=by
    have h:=TI.out
    rw [←HV.out] at h
    simp only [List.take_zero,Nm.v32,Int.mul_zero,Int.add_zero,Nat.add_zero]
    exact h
   clear TI
   go_wp2_with fail
   go_loopw [9,10] (fun c j wr=>∃(t:Nat) (cc:Int) (ps:List Int),t≤l2∧j=.int .i64 t∧c=.int .u64 cc∧0≤cc∧cc<4294967296∧Hid (TimesInv g K w2 (V+Nm.p32 k*(x*Nm.v32 (ys.take t))) cc (k+t) (k+l2) ps wr)) (fun _ j _=>l2 - (intOf j).toNat)
   case atStart=>exact ⟨0,0,ps,Nat.zero_le _,rfl,rfl,by omega,by omega,TJ.out⟩
   case round=>
    clear TJ ps
    obtain ⟨t,cc,ps,ht,rfl,rfl,hc0,hc1,TI⟩:=hrel
    obtain ⟨o1,o2,o3,o4,o5,o6⟩:=TI.out
    by_cases htl:t<l2
    ·have htl':(t:Int)<(l2:Int):=by omega
     have hx:wr.cell? ⟨g1,k,none⟩=some (.int .u64 x):=by rw [X.out];exact (o6.cell (p:=⟨g1,k,none⟩) (BX.out hlt)).trans (CX.out k hlt)
     obtain ⟨y,hy,Y⟩:∃y,wr.cell? ⟨g2,t,none⟩=some (.int .u64 y)∧Hid (y=ys.getD t 0):=⟨_,(o6.cell (p:=⟨g2,t,none⟩) (BY.out htl)).trans (CY.out t htl),rfl⟩
     have hkt:k+t<K:=by have:=HK.out;omega
     obtain ⟨pv,hpv,PV⟩:∃pv,wr.cell? ⟨g,k+t,none⟩=some (.int .u64 pv)∧Hid (pv=ps.getD (k+t) 0):=⟨_,o1.cell (k+t) (by omega),rfl⟩
     have hfr:=o1.free (k+t)
     have hy0:0≤y:=by have:=HY.out.at t;have:=Y.out;omega
     have hy1:y<4294967296:=by have:=HY.out.at t;have:=Y.out;omega
     have hp0:0≤pv:=by have:=o3.at (k+t);have:=PV.out;omega
     have hp1:pv<4294967296:=by have:=o3.at (k+t);have:=PV.out;omega
     have hxy0:0≤x*y:=Int.mul_nonneg hx0 hy0
     have hxy1:x*y≤4294967295*4294967295:=Int.mul_le_mul (by omega) (by omega) hy0 (by omega)
     obtain ⟨m0,hm0,M0⟩:∃m0,IntKind.u64.wrap (x*y)=m0∧Hid (m0=x*y):=⟨_,by rw [IntKind.wrap_u64,Int.emod_eq_of_lt (by omega) (by omega)],rfl⟩
     have hm00:0≤m0:=by have:=M0.out;omega
     have hm01:m0≤18446744065119617025:=by have:=M0.out;omega
     obtain ⟨m1,hm1,M1⟩:∃m1,IntKind.u64.wrap (m0+pv)=m1∧Hid (m1=m0+pv):=⟨_,by rw [IntKind.wrap_u64,Int.emod_eq_of_lt (by omega) (by omega)],rfl⟩
     have hm10:0≤m1:=by have:=M1.out;omega
     have hm11:m1≤18446744069414584320:=by have:=M1.out;omega
     obtain ⟨tt,htt,TT⟩:∃tt,IntKind.u64.wrap (m1+cc)=tt∧Hid (tt=m1+cc):=⟨_,by rw [IntKind.wrap_u64,Int.emod_eq_of_lt (by omega) (by omega)],rfl⟩
     have htt0:0≤tt:=by have:=TT.out;omega
     have htt1:tt≤18446744073709551615:=by have:=TT.out;omega
     obtain ⟨lo,hlo,LO⟩:∃lo,bits .and .u64 tt 4294967295=lo∧Hid (lo=tt%4294967296):=⟨_,r_mask32T tt (by omega) (by omega),rfl⟩
     obtain ⟨hi,hhi,HI⟩:∃hi,tt/4294967296=hi∧Hid (hi=tt/4294967296):=⟨_,rfl,rfl⟩
     have BLO:Hid ((0≤lo∧lo<4294967296)∧0≤hi∧hi<4294967296):=by have:=LO.out;have:=HI.out;show _∧_;omega
     have ST:Hid (lo+4294967296*hi=x*ys.getD t 0+pv+cc):=by
      have h1:=LO.out;have h2:=HI.out;have h3:=TT.out;have h4:=M1.out;have h5:=M0.out
      rw [Hid,←Y.out];omega
     have O1:=hid o1
     have O2:=hid o2
     have O3:=hid o3
     have O4:=hid o4
     have O5:=hid o5
     have O6:=hid o6
     have hkt':(k:Int)+(t:Int)<(K:Int):=by omega
     clear o1 o2 o3 o4 o5 o6 TI hxy0 hxy1
     go_wp2_with fail
     go_quiet (fail)
     have hpv2:(wr.drewN nq).cell? ⟨g,k+t,none⟩=some (.int .u64 pv):=hpv
     have hfr2:(wr.drewN nq).frozen? ⟨g,k+t,none⟩=false:=hfr
     have P1:Hid (Own (wr.drewN nq) g ps):=O1.out
     have P6:=hid (below_drewN O6.out nq)
     clear hx hy hpv hfr O1 O6
     generalize wr.drewN nq=wq at *
     go_wp2
     go_roundw
     case rel=>
      refine ⟨t+1,hi,ps.set (k+t) lo,by omega,by go_num,by first | rfl | rw [hhi],BLO.out.2.1,BLO.out.2.2,P1.out.set _ _,by rw [List.length_set];exact O2.out,O3.out.set _ BLO.out.1.1 BLO.out.1.2,?_,?_,P6.out.setCell (Nat.le_refl _) _⟩
      ·exact Nm.times_digit (by have:=O2.out;omega) PV.out O4.out ST.out
      ·intro s hs
       rw [Nm.getD_set ps (k+t) s lo (by have:=O2.out;omega),if_neg (by omega)]
       exact O5.out s hs
     case measure=>simp [intOf];omega
    ·have htl':¬(t:Int)<(l2:Int):=by omega
     obtain rfl:t=l2:=by omega
     rw [List.take_of_length_le (by have:=LY.out;omega)] at o4
     have hkt:k+t<K:=by have:=HK.out;omega
     obtain ⟨pv,hpv⟩:∃pv,wr.cell? ⟨g,k+t,none⟩=some (.int .u64 pv):=⟨_,o1.cell (k+t) (by omega)⟩
     have hfr:=o1.free (k+t)
     have Z0:=o5 (k+t) (Nat.le_refl _)
     have NX:Hid (TimesInv g K w2 (Nm.v32 (xs.take (k+1))*Nm.v32 ys) 0 (k+1) (k+1+t) (ps.set (k+t) cc) (wr.setCell ⟨g,k+t,none⟩ (.int .u64 cc))):=by
      refine ⟨o1.set _ _,by rw [List.length_set];exact o2,o3.set _ hc0 hc1,?_,?_,o6.setCell (Nat.le_refl _) _⟩
      ·rw [Nm.v32_set ps (k+t) cc (by omega),Z0,Nm.v32_take_nextT,←X.out,Int.add_mul,←HV.out,Int.mul_zero,Int.add_zero,Int.sub_zero,Int.mul_assoc]
       exact o4
      ·intro s hs
       rw [Nm.getD_set ps (k+t) s cc (by omega),if_neg (by omega)]
       exact o5 s (by omega)
     have hkt':(k:Int)+(t:Int)<(K:Int):=by omega
     clear o1 o2 o3 o4 o5 o6 TI Z0
     go_wp2
     go_roundw
     case rel=>exact ⟨k+1,_,by omega,by go_num,NX.out⟩
     case measure=>simp [intOf];omega
  ·have hlt':¬(k:Int)<(l1:Int):=by omega
   obtain rfl:k=l1:=by omega
   obtain ⟨o1,o2,o3,o4,o5,o6⟩:=TI.out
   rw [List.take_of_length_le (by have:=LX.out;omega),VX.out,VY.out,Int.mul_zero,Int.add_zero] at o4
   have D3:=hid (chain D2.out (by rw [Gg.out];exact o6) (Nat.le_refl _))
   obtain ⟨H,HH⟩:∃H,Hid (K=2*H):=⟨N1+N2,by show _=_;have:=HK.out;have:=HL1.out;have:=HL2.out;omega⟩
   have r1:(K:Int)/2=(H:Int):=by have:=HH.out;omega
   have r2:(K:Int).tdiv 2=(H:Int):=by rw [Int.tdiv_eq_ediv_of_nonneg (by omega)];exact r1
   have hH:H≤2000000:=by have:=HH.out;omega
   have hmk:=make64 H (by omega) wr
   have hb8:Below wr.heap.size wr (wr.alloc (.cells (madeCells #[.int .u64 0] H) 24)):=(Below.refl _ _).alloc (Nat.le_refl _) _
   have ho8:Own (wr.alloc (.cells (madeCells #[.int .u64 0] H) 24)) wr.heap.size (List.replicate H 0):=by rw [made_zero];exact Own.alloc wr _
   obtain ⟨W0,hW0⟩:∃W0,wr.alloc (.cells (madeCells #[.int .u64 0] H) 24)=W0:=⟨_,rfl⟩
   rw [hW0] at hmk hb8 ho8
   clear hW0
   obtain ⟨gq,hgq⟩:∃gq,wr.heap.size=gq:=⟨_,rfl⟩
   rw [hgq] at hmk hb8 ho8
   have hglt:g<gq:=by rw [←hgq];exact o1.lt
   have JI:Hid (JoinInv gq H wr ps 0 (List.replicate H 0) W0):=⟨ho8,by simp,Nm.Limbs.replicate _,by rw [Nm.val_replicate];simp [Nm.v32],fun i _=>getD_replicate _ _,hb8⟩
   have OP:=hid o1
   have OL:=hid o2
   have OH:=hid o3
   have OV:=hid o4
   have HGQ:=hid hgq
   clear o1 o2 o3 o4 o5 o6 TI hb8 ho8 hgq
   generalize wr=wz at *
   go_wp2_with fail
   go_loopw [13] (fun i wx=>∃(j:Nat) (os:List Int),j≤H∧i=.int .i64 j∧Hid (JoinInv gq H wz ps j os wx)) (fun i _=>H - (intOf i).toNat)
   case atStart=>exact ⟨0,_,Nat.zero_le _,rfl,JI.out⟩
   case round=>
    clear JI hmk r1 r2
    obtain ⟨j,os,hj,rfl,I⟩:=hrel
    by_cases hlt:j<H
    ·have hb:=I.out.2.2.2.2.2
     obtain ⟨x,hx,X⟩:∃x,wr.cell? ⟨g,2*j,none⟩=some (.int .u64 x)∧Hid (x=ps.getD (2*j) 0):=⟨_,(hb.cell (p:=⟨g,2*j,none⟩) hglt).trans (OP.out.cell (2*j) (by have:=OL.out;have:=HH.out;omega)),rfl⟩
     obtain ⟨y,hy,Y⟩:∃y,wr.cell? ⟨g,2*j+1,none⟩=some (.int .u64 y)∧Hid (y=ps.getD (2*j+1) 0):=⟨_,(hb.cell (p:=⟨g,2*j+1,none⟩) hglt).trans (OP.out.cell (2*j+1) (by have:=OL.out;have:=HH.out;omega)),rfl⟩
     have hx0:=OH.out.at (2*j)
     rw [←X.out] at hx0
     have hy0:=OH.out.at (2*j+1)
     rw [←Y.out] at hy0
     obtain ⟨hx0,hx1⟩:=hx0
     obtain ⟨hy0,hy1⟩:=hy0
     obtain ⟨q1,q2⟩:=or32 x y hx0 hx1 hy0 hy1
     obtain ⟨v,hv⟩:∃v,y*4294967296=v:=⟨_,rfl⟩
     obtain ⟨z,hz⟩:∃z,x+4294967296*y=z:=⟨_,rfl⟩
     rw [hv] at q1 q2
     rw [hz] at q2
     have ST:Hid (∀wq,Below wr.heap.size wr wq→JoinInv gq H wz ps (j+1) (os.set j z) (wq.setCell ⟨gq,j,none⟩ (.int .u64 z))):=fun wq hb=>I.out.step hb hlt X.out Y.out hz.symm (by omega) (by omega)
     obtain ⟨y0,hyc⟩:∃y,wr.cell? ⟨gq,j,none⟩=some (.int .u64 y):=⟨_,I.out.1.cell j (by have:=I.out.2.1;omega)⟩
     have hfr:=I.out.1.free j
     have hjH:(j:Int)<(H:Int):=by omega
     have hj2:2*(j:Int)<(K:Int):=by have:=HH.out;omega
     have hj3:2*(j:Int)+1<(K:Int):=by have:=HH.out;omega
     have hv0:0≤v:=by omega
     have hv1:v<18446744073709551616:=by omega
     have HV:=hid hv
     clear hb hz hv I
     have q0:IntKind.u64.wrap (y*4294967296)=v:=by rw [HV.out];exact q1
     go_wp2_with fail
     go_region
     all_goals
      go_wp2
      go_roundw
      case rel=>exact ⟨j+1,_,by omega,by go_num,ST.out _ (below_drewN (Below.refl _ _) _)⟩
      case measure=>simp [intOf];omega
    ·have hjH:j=H:=by omega
     subst hjH
     obtain ⟨i1,i2,i3,i4,i5,i6⟩:=I.out
     rw [List.take_of_length_le (by have:=OL.out;have:=HH.out;omega),OV.out] at i4
     have D5:=hid (chain D3.out (by rw [HGQ.out];exact i6) (Nat.le_refl _))
     have P1:=hid i1
     have P2:=hid i2
     have P3:=hid i3
     have P4:=hid i4
     clear i1 i2 i3 i4 i5 i6 I
     go_wp2_with fail
     refine (short_some (some ⟨gq,0,none⟩) j j os _ P2.out (by omega) P1.out.lies P3.out).mono ?_
     rintro e w9 ⟨r,us,rfl,-,A9,d9⟩
     rw [P4.out] at A9
     have A10:=hid (A9.up (B':=w.heap.size) D5.out.size)
     have D10:=hid (chain D5.out d9 (Nat.le_refl _))
     clear A9 d9
     go_wp2_with fail
     go_ret
     exact ⟨r,us,rfl,A10.out,D10.out⟩
end Go.Proofs.YtbdhlfklcdegdaaGreatDoor

namespace Go.Proofs.YtbdhlfklcdegdaaGreatDoor
open Go.RowKit Go.Deep
def GivesB (T:Int) (w:World) (e:Ending) (w':World):Prop:=
 ((T<Nm.pw 4096∧∃r os,e=.returned (.tuple #[.slice r (List.length os) (List.length os),.bool true])∧Ans w.heap.size w' r os T)∨(Nm.pw 4096≤T∧e=.returned (.tuple #[.slice none 0 0,.bool false])))∧Below w.heap.size w w'
structure ShutQ (p:Prop):Prop where
 out:p
theorem long_mul {xs ys:List Int} (hx:Nm.Limbs xs) (hy:Nm.Limbs ys) (h1:0<Nm.tsize xs) (h2:0<Nm.tsize ys) {k:Nat} (h:k+2≤Nm.tsize xs+Nm.tsize ys):Nm.pw k≤Nm.val xs*Nm.val ys:=by
 have a1:=Nm.val_ge_top hx h1
 have a2:=Nm.val_ge_top hy h2
 have p1:=Nm.pw_pos (Nm.tsize xs - 1)
 have p2:=Nm.pw_pos (Nm.tsize ys - 1)
 have h3:Nm.pw (Nm.tsize xs - 1)*Nm.pw (Nm.tsize ys - 1)≤Nm.val xs*Nm.val ys:=Int.mul_le_mul a1 a2 (by omega) (by omega)
 rw [←Nm.pw_add] at h3
 exact Int.le_trans (Nm.pw_mono (by omega)) h3
theorem Ans.tpos {B:Nat} {w:World} {p:Option Addr} {ys:List Int} {n:Int} (h:Ans B w p ys n) (hn:1≤n):0<Nm.tsize ys:=by
 have h1:=Nm.tsize_zero_iff h.2.1
 have h2:=h.2.2.2.1
 omega
theorem Ans.over {B:Nat} {w:World} {p:Option Addr} {ys:List Int} {n:Int} (h:Ans B w p ys n):4096<ys.length↔Nm.pw 4096≤n:=by
 have h1:=Nm.tsize_le_iff h.2.1 4096
 rw [h.2.2.1,h.2.2.2.1] at h1
 constructor
 ·intro h2
  rcases Int.lt_or_le n (Nm.pw 4096) with c | c
  ·have:=h1.2 c;omega
  ·exact c
 ·intro h2
  rcases Nat.lt_or_ge 4096 ys.length with c | c
  ·exact c
  ·have:=h1.1 c
   exact absurd (Int.lt_of_lt_of_le this h2) (Int.lt_irrefl _)
theorem half_pow (A:Int) (n:Nat) (b:Nat) (hb:n%2=b):A^(n/2)*A^(n/2)*A^b=A^n:=by
 rw [←Int.pow_add,←Int.pow_add]
 congr 1
 omega
set_option maxRecDepth 100000 in
set_option maxHeartbeats 8000000 in
theorem rpower_any (p:Option Addr) (m cap:Nat) (zs:List Int) (A:Int) (hA:Nm.val zs=A) (hA1:1≤A) (tz:Nm.tsize zs≤4096) (n:Nat):∀(w:World),Arg w p m cap zs→n<9223372036854775808→
  Calls Tryz.prog 320 #[.slice p m cap,.int .i64 (n:Int)] w fun e w'=>GivesB (A^n) w e w':=by
 induction n using Nat.strongRecOn with
 | _ n ih=>
 intro w ha hn
 by_cases h0:n=0
 ·subst h0
  have D:Below w.heap.size w (w.alloc (.cells #[.int .u64 1] 24)):=(Below.refl _ _).alloc (Nat.le_refl _) _
  have F:Hid (GivesB (A^0) w (.returned (.tuple #[.slice (some ⟨w.heap.size,0,none⟩) 1 1,.bool true])) (w.alloc (.cells #[.int .u64 1] 24))):=by
   rw [Int.pow_zero]
   exact ⟨.inl ⟨one_lt_pw,some ⟨w.heap.size,0,none⟩,[1],rfl,⟨(Own.alloc w [1]).lies,limb_one (by omega),by simp [Nm.tsize],by simp [Nm.val],fun a h=>by cases h;exact Nat.le_refl _⟩⟩,D⟩
  clear ih D ha hA hA1 tz
  go_enter Tryz.func320,Tryz.ntmps320
  go_wp2_with fail
  go_ret2
  exact F.out
 ·have IH:=hid (ih (n/2) (by omega) w ha (by omega))
  have hn0:((n:Int) == 0)=false:=by rw [beq_eq_false_iff_ne];omega
  obtain ⟨k,hk⟩:∃k,n/2=k:=⟨_,rfl⟩
  obtain ⟨b,hb⟩:∃b,n%2=b:=⟨_,rfl⟩
  have HP:=half_pow A n b hb
  rw [hk] at IH HP
  have q1:(n:Int)/2=(k:Int):=by omega
  have q1t:(n:Int).tdiv 2=(k:Int):=by rw [Int.tdiv_eq_ediv_of_nonneg (by omega)];exact q1
  have q2:(n:Int)%2=(b:Int):=by omega
  have q2t:(n:Int).tmod 2=(b:Int):=by rw [Int.tmod_eq_emod_of_nonneg (by omega)];exact q2
  have hb1:b=0∨b=1:=by omega
  have a2:=ha.2.1
  have a3:=ha.2.2.1
  have hn63:(n:Int)<9223372036854775808:=by omega
  have HA:=hid ha
  have HV:=hid hA
  have H1:=hid hA1
  have HZ:=hid tz
  have HHP:=hid HP
  have HKL:=Pn.pow_mono hA1 (show k≤n by omega)
  have HK:=hid HKL
  obtain ⟨TA,hTA⟩:∃T,Hid (Nm.tsize zs=T):=⟨_,rfl⟩
  have hTA0:Hid (0<Nm.tsize zs):=by
   have h1:=Nm.tsize_zero_iff ha.2.2.2.2
   show _<_
   omega
  have TAb:(TA:Int)≤4096:=by have:=hTA.out;omega
  have PK:=hid (Pn.pow_pos' hA1 k)
  clear ih ha hA hA1 tz hk hb HP h0 HKL hn
  go_enter Tryz.func320,Tryz.ntmps320
  go_wp2_with fail
  refine IH.out.mono ?_
  rintro e w1 ⟨h | h,d1⟩
  ·obtain ⟨hs,r,os,rfl,A1⟩:=h
   have HB1:=hid A1
   have HS:ShutQ (A^k<Nm.pw 4096):=⟨hs⟩
   have D1:=hid d1
   have hw1:Hid (w.heap.size≤w1.heap.size):=d1.size
   obtain ⟨l,hl⟩:∃l,os.length=l:=⟨_,rfl⟩
   have los:(l:Int)≤4096:=by have:=A1.small hs;omega
   have AL:Hid (Arg w1 r l l os):=⟨hl,Nat.le_refl _,by omega,A1.1,A1.2.1⟩
   have TL:Hid (Nm.tsize os=l):=A1.2.2.1.trans hl
   rw [hl]
   have HA1:=hid (HA.out.below d1 (Nat.le_refl _))
   clear hs A1 d1 IH hl
   by_cases h2:4096<2*(l:Int) - 1
   ·have F:Hid (GivesB (A^n) w (.returned (.tuple #[.slice none 0 0,.bool false])) w1):=by
     refine ⟨.inr ⟨?_,rfl⟩,D1.out⟩
     have h3:=long_mul (k:=4096) HB1.out.2.1 HB1.out.2.1 (HB1.out.tpos PK.out) (HB1.out.tpos PK.out) (by rw [TL.out];omega)
     rw [HB1.out.2.2.2.1,←Int.pow_add] at h3
     refine Int.le_trans h3 (Pn.pow_mono H1.out ?_)
     omega
    go_wp2_with fail
    go_ret2
    exact F.out
   ·have h2':Hid (2*(l:Int) - 1≤4096):=by show _≤_;omega
    have h2d:decide (4096<2*(l:Int) - 1)=false:=by simp;omega
    have TI:=hid (refTimes_any r r l l l l os os w1 AL.out AL.out (by rw [TL.out];omega) (by rw [TL.out];omega))
    rw [HB1.out.2.2.2.1] at TI
    clear h2
    go_wp2_with fail
    refine TI.out.mono ?_
    rintro e w2 ⟨r2,us,rfl,A2,d2⟩
    have HB2:=hid A2
    have D2:=hid (chain D1.out d2 (Nat.le_refl _))
    have HA2:=hid (HA1.out.below d2 (Nat.le_refl _))
    have lus:Hid (us.length≤8192):=by
     show _≤_
     rw [←A2.2.2.1]
     refine (Nm.tsize_le_iff A2.2.1 8192).2 ?_
     rw [A2.2.2.2.1]
     have h1:=HS.out
     have h2:A^k*A^k<Nm.pw 4096*Nm.pw 4096:=by
      have p0:=PK.out
      have:A^k*A^k≤A^k*Nm.pw 4096:=Int.mul_le_mul_of_nonneg_left (by omega) (by omega)
      have h3:A^k*Nm.pw 4096<Nm.pw 4096*Nm.pw 4096:=Int.mul_lt_mul_of_pos_right h1 (Nm.pw_pos 4096)
      omega
     rw [←Nm.pw_add] at h2
     exact h2
    have P2:Hid (1≤A^k*A^k):=by
     show _≤_
     rw [←Int.pow_add]
     exact Pn.pow_pos' H1.out _
    clear A2 d2 TI HA1 HB1 D1 h2d
    rcases hb1 with rfl | rfl
    ·have E:Hid (A^k*A^k=A^n):=by have:=HHP.out;rw [Int.pow_zero,Int.mul_one] at this;exact this
     rw [E.out] at HB2
     by_cases h3:4096<us.length
     ·have h3':(4096:Int)<(us.length:Int):=by omega
      have F:Hid (GivesB (A^n) w (.returned (.tuple #[.slice none 0 0,.bool false])) w2):=⟨.inr ⟨HB2.out.over.1 h3,rfl⟩,D2.out⟩
      clear h3
      go_wp2_with fail
      go_ret2
      exact F.out
     ·have h3d:decide (4096<(us.length:Int))=false:=by simp;omega
      have h3b:(us.length:Int)<10000:=by omega
      have H3:Hid ((us.length:Int)≤4096):=by show _≤_;omega
      have F:Hid (GivesB (A^n) w (.returned (.tuple #[.slice r2 (List.length us) (List.length us),.bool true])) w2):=by
       have hlt:A^n<Nm.pw 4096:=by
        rcases Int.lt_or_le (A^n) (Nm.pw 4096) with c | c
        ·exact c
        ·exact absurd (HB2.out.over.2 c) h3
       exact ⟨.inl ⟨hlt,r2,us,rfl,HB2.out.upT hw1.out⟩,D2.out⟩
      clear h3
      go_wp2_with fail
      go_ret2
      exact F.out
    ·have E:Hid (A^k*A^k*A=A^n):=by have:=HHP.out;rw [Int.pow_succ,Int.pow_zero,Int.one_mul] at this;exact this
     by_cases h3:4096<us.length
     ·have h3':(4096:Int)<(us.length:Int):=by omega
      have F:Hid (GivesB (A^n) w (.returned (.tuple #[.slice none 0 0,.bool false])) w2):=by
       refine ⟨.inr ⟨?_,rfl⟩,D2.out⟩
       have h4:=HB2.out.over.1 h3
       rw [←E.out]
       have h5:A^k*A^k*1≤A^k*A^k*A:=Int.mul_le_mul_of_nonneg_left H1.out (by have:=P2.out;omega)
       rw [Int.mul_one] at h5
       exact Int.le_trans h4 h5
      clear h3
      go_wp2_with fail
      go_ret2
      exact F.out
     ·have h3d:decide (4096<(us.length:Int))=false:=by simp;omega
      have h3b:(us.length:Int)<10000:=by omega
      have H3:Hid ((us.length:Int)≤4096):=by show _≤_;omega
      have T2:=top_any p m cap zs w2 HA2.out.1 (by omega) HA2.out.2.2.2.1
      rw [hTA.out] at T2
      have HT2:=hid T2
      clear T2
      go_wp2_with fail
      refine HT2.out.mono ?_
      rintro e w3 ⟨rfl,rfl⟩
      have H3':=H3.out
      by_cases h4:4096<(us.length:Int)+(TA:Int) - 1
      ·have F:Hid (GivesB (A^n) w (.returned (.tuple #[.slice none 0 0,.bool false])) w3):=by
        refine ⟨.inr ⟨?_,rfl⟩,D2.out⟩
        have h5:=long_mul (k:=4096) HB2.out.2.1 HA2.out.2.2.2.2 (HB2.out.tpos P2.out) hTA0.out (by rw [HB2.out.2.2.1,hTA.out];omega)
        rw [HB2.out.2.2.2.1,HV.out,E.out] at h5
        exact h5
       clear h3 H3'
       go_wp2_with fail
       go_ret2
       exact F.out
      ·have h4d:decide (4096<(us.length:Int)+(TA:Int) - 1)=false:=by simp;omega
       have TI:=hid (refTimes_any r2 p _ _ m cap us zs w3 (HB2.out.arg (by have:=lus.out;omega)) HA2.out (by rw [HB2.out.2.2.1];have:=lus.out;omega) (by have:=HZ.out;omega))
       rw [HB2.out.2.2.2.1,HV.out,E.out] at TI
       clear h3 h4 H3'
       go_wp2_with fail
       refine TI.out.mono ?_
       rintro e w4 ⟨r4,vs,rfl,A4,d4⟩
       have HB4:=hid A4
       have hw3:Hid (w.heap.size≤w3.heap.size):=D2.out.size
       have D4:=hid (chain D2.out d4 (Nat.le_refl _))
       clear A4 d4 TI
       by_cases h5:4096<vs.length
       ·have h5':(4096:Int)<(vs.length:Int):=by omega
        have F:Hid (GivesB (A^n) w (.returned (.tuple #[.slice none 0 0,.bool false])) w4):=⟨.inr ⟨HB4.out.over.1 h5,rfl⟩,D4.out⟩
        clear h5
        go_wp2_with fail
        go_ret2
        exact F.out
       ·have h5d:decide (4096<(vs.length:Int))=false:=by simp;omega
        have F:Hid (GivesB (A^n) w (.returned (.tuple #[.slice r4 (List.length vs) (List.length vs),.bool true])) w4):=by
         have hlt:A^n<Nm.pw 4096:=by
          rcases Int.lt_or_le (A^n) (Nm.pw 4096) with c | c
          ·exact c
          ·exact absurd (HB4.out.over.2 c) h5
         exact ⟨.inl ⟨hlt,r4,vs,rfl,HB4.out.upT hw3.out⟩,D4.out⟩
        clear h5
        go_wp2_with fail
        go_ret2
        exact F.out
  ·obtain ⟨hs,rfl⟩:=h
   have F:Hid (GivesB (A^n) w (.returned (.tuple #[.slice none 0 0,.bool false])) w1):=⟨.inr ⟨Int.le_trans hs HK.out,rfl⟩,d1⟩
   clear hs d1 IH
   go_wp2_with fail
   go_ret2
   exact F.out
end Go.Proofs.YtbdhlfklcdegdaaGreatDoor
