/-
  Texts put together: ArgLit, ZRef15, ZWhole, ZInt, ZInt2.
-/
import Derived.Test.YtbdhlfklcdegdaaGreatDoorWAC
import Derived.Test.YtbdhlfklcdegdaaGreatDoorWAZ
import Derived.Test.YtbdhlfklcdegdaaGreatDoorWAI
import Derived.Test.YtbdhlfklcdegdaaGreatDoorWAP
import Derived.Deep.RegionWith
namespace Go.Proofs.YtbdhlfklcdegdaaGreatDoor
open Go Go.RowKit Go.Deep
theorem arg_lit {w:World} {g:Nat} {x:Int} (h:w.heap[g]?=some (.cells #[.int .u64 x] 24 (0,0))) (h0:0≤x) (h1:x<18446744073709551616):Arg w (some ⟨g,0,none⟩) 1 1 [x]:=by
 refine ⟨rfl,Nat.le_refl _,by omega,.inr ⟨g,0,rfl,fun i hi=>?_⟩,Nm.Limbs.mk h0 h1 Nm.Limbs.nil⟩
 obtain rfl:i=0:=by simpa using hi
 simp [World.cell?,h]
theorem below_drew1 {B:Nat} {w w':World} (h:Below B w w'):Below B w w'.drew:=⟨h.os,h.tape,h.output,h.size,h.block⟩
end Go.Proofs.YtbdhlfklcdegdaaGreatDoor

namespace Go.Proofs.YtbdhlfklcdegdaaGreatDoor
open Go.RowKit Go.Deep
namespace Nm
theorem v32_lt:∀zs:List Int,Halves zs→v32 zs<p32 zs.length
 | [],_=>by simp [v32,p32]
 | z::zs,h=>by
  have h1:=v32_lt zs (fun x hx=>h x (List.mem_cons_of_mem _ hx))
  have h2:=h z List.mem_cons_self
  simp only [v32,List.length_cons,p32]
  omega
theorem v32_split:∀(zs:List Int) (k:Nat),v32 zs=v32 (zs.take k)+p32 k*v32 (zs.drop k)
 | zs,0=>by simp [v32,p32]
 | [],k+1=>by simp [v32]
 | z::zs,k+1=>by
  have:=v32_split zs k
  simp only [List.take_succ_cons,List.drop_succ_cons,v32,p32]
  rw [Int.mul_assoc]
  omega
end Nm
namespace Nm
theorem v32_drop_at:∀(zs:List Int) (k:Nat),k<zs.length→v32 (zs.drop k)=zs.getD k 0+4294967296*v32 (zs.drop (k+1))
 | [],_,h=>by simp at h
 | z::zs,0,_=>by simp [v32]
 | z::zs,k+1,h=>by
  have:=v32_drop_at zs k (by simpa using h)
  simpa using this
theorem v32_div (zs:List Int) (h:Halves zs) (k:Nat) (hk:k≤zs.length):v32 zs/p32 k=v32 (zs.drop k):=by
 have h1:=v32_split zs k
 have h2:=v32_lt _ (h.take k)
 rw [List.length_take,Nat.min_eq_left hk] at h2
 have h3:=v32_nonneg _ (h.take k)
 have hp:=p32_pos k
 rw [h1,Int.add_mul_ediv_left _ _ (by omega),Int.ediv_eq_zero_of_lt h3 h2,Int.zero_add]
theorem drop_div {D F x q r:Int} (hF:0<F) (hq:q=(D%F*4294967296+x)/F) (hr:r=(D%F*4294967296+x)%F):q+4294967296*(D/F)=(x+4294967296*D)/F∧r=(x+4294967296*D)%F:=by
 have e:x+4294967296*D=(D%F*4294967296+x)+F*(4294967296*(D/F)):=by
  have h:=Int.emod_add_mul_ediv D F
  have h2:4294967296*D=4294967296*(D%F)+4294967296*(F*(D/F)):=by rw [←Int.mul_add,h]
  rw [h2,Int.mul_left_comm F]
  omega
 rw [e,Int.add_mul_ediv_left _ _ (by omega),Int.add_mul_emod_self_left,hq,hr]
 exact ⟨rfl,rfl⟩
end Nm
def DropInv (g M:Nat) (w:World) (ys:List Int) (F:Int) (j:Nat) (rest:Int) (ss:List Int) (wr:World):Prop:=
 Own wr g ss∧ss.length=M∧Nm.Halves ss∧Nm.v32 (ss.drop j)=Nm.v32 (ys.drop j)/F∧rest=Nm.v32 (ys.drop j)%F∧Below g w wr
theorem DropInv.step {g M:Nat} {w:World} {ys:List Int} {F:Int} {u:Nat} {rest:Int} {ss:List Int} {wr:World} (h:DropInv g M w ys F (u+1) rest ss wr) (hy:ys.length=M) (hu:u<M) (hF:0<F) {x q r:Int} (hx:x=ys.getD u 0)
  (hq:q=(rest*4294967296+x)/F) (hr:r=(rest*4294967296+x)%F) (hq0:0≤q) (hq1:q<4294967296):
  DropInv g M w ys F u r (ss.set u q) (wr.setCell ⟨g,u,none⟩ (.int .u64 q)):=by
 obtain ⟨h1,h2,h3,h4,h5,h6⟩:=h
 have d:=Nm.drop_div (D:=Nm.v32 (ys.drop (u+1))) (x:=x) (q:=q) (r:=r) hF (by rw [←h5];exact hq) (by rw [←h5];exact hr)
 have e:=Nm.v32_drop_at ys u (by omega)
 rw [←hx] at e
 refine ⟨h1.set _ _,by rw [List.length_set];exact h2,h3.set _ hq0 hq1,?_,?_,h6.setCell (Nat.le_refl _) _⟩
 ·rw [Nm.v32_drop_at (ss.set u q) u (by rw [List.length_set];omega),Nm.getD_set ss u u q (by omega),if_pos rfl,List.drop_set_of_lt (by omega),h4,e]
  exact d.1
 ·rw [e]
  exact d.2
set_option maxRecDepth 20000 in
set_option maxRecDepth 100000 in
set_option maxHeartbeats 4000000 in
theorem drop_any (p:Option Addr) (n cap:Nat) (za:List Int) (kk:Int) (k:Nat) (w:World) (ha:Arg w p n cap za) (hn:Nm.tsize za≤1099511627776) (hkk:kk=(k:Int)) (hk:k≤262144):
  Calls Tryz.prog 139 #[.slice p n cap,.int .i64 kk] w fun e w'=>∃r os,e=.returned (.slice r (List.length os) (List.length os))∧Ans w.heap.size w' r os (Nm.val za/2^k)∧Below w.heap.size w w':=by
 have HA:=hid ha
 have hk0:0≤kk:=by omega
 have hk1:kk≤262144:=by omega
 obtain ⟨z,HZ⟩:∃z:Nat,Hid (kk/32=(z:Int)∧z=k/32):=⟨k/32,by show _∧_;omega⟩
 obtain ⟨r,HR⟩:∃r:Nat,Hid (kk%32=(r:Int)∧r=k%32):=⟨k%32,by show _∧_;omega⟩
 have KZ:Hid (k=32*z+r):=by have:=HZ.out;have:=HR.out;show _=_;omega
 have hz8:z≤8192:=by have:=HZ.out;omega
 have hr31:r≤31:=by have:=HR.out;omega
 clear ha hkk hk
 go_enter Tryz.func139,Tryz.ntmps139
 go_wp2_with fail
 refine (halves_any p n cap za _ HA.out (by have:=HA.out.2.1;have:=HA.out.2.2.1;omega)).mono ?_
 rintro e w1 ⟨xs,rfl,lx,hx,vx,kx,bx⟩
 have D1:=hid bx
 obtain ⟨l1,LX⟩:∃l1,Hid (xs.length=l1):=⟨_,rfl⟩
 have HX:=hid hx
 have VX:=hid vx
 have kx1:l1≤2*Nm.tsize za:=by have:=LX.out;omega
 obtain ⟨g1,G1⟩:∃g1,w.heap.size=g1:=⟨_,rfl⟩
 have lx2:=lx
 rw [G1] at lx2
 have CX:Hid (∀i,i<l1→w1.cell? ⟨g1,i,none⟩=some (.int .u64 (xs.getD i 0))):=fun i hi=>by have:=lx2.cells i (by have:=LX.out;omega);rwa [Nat.zero_add] at this
 obtain ⟨g,Gg⟩:∃g,Hid (w1.heap.size=g):=⟨_,rfl⟩
 have BX:Hid (∀{j:Nat},j<l1→g1<g):=fun {j} hj=>by rw [←Gg.out];exact cell_lt (CX.out j hj)
 rw [LX.out,G1]
 clear lx lx2 hx vx kx bx
 have DV:Hid (Nm.val za/2^k=Nm.val za/Nm.p32 z/2^r):=by
  rw [Hid,KZ.out,Nm.two_add,←Nm.p32_pow,Int.ediv_ediv_of_nonneg (by have:=Nm.p32_pos z;omega)]
 by_cases hz:l1≤z
 ·have hz':(l1:Int)≤kk/32:=by have:=HZ.out;omega
  have V0:Hid (Nm.val za/2^k=0):=by
   have h1:=Nm.v32_lt _ HX.out
   have h2:=Nm.v32_nonneg _ HX.out
   have h3:=Nm.p32_mono hz
   rw [LX.out,VX.out] at h1
   rw [VX.out] at h2
   rw [Hid,DV.out,Int.ediv_eq_zero_of_lt h2 (by omega),Int.zero_ediv]
  have D3:=hid (chain D1.out ((Below.refl w1.heap.size w1).alloc (Nat.le_refl _) (.cells #[] 24)) (Nat.le_refl _))
  have GS:Hid (w.heap.size≤g):=by rw [←Gg.out];exact D1.out.size
  have FIN:Hid (∀x:World,Below w.heap.size w x→∃r os,Ending.returned (.slice (some ⟨g,0,none⟩) 0 0)=.returned (.slice r (List.length os) (List.length os))∧Ans w.heap.size x r os (Nm.val za/2^k)∧Below w.heap.size w x):=fun x hx=>⟨some ⟨g,0,none⟩,[],rfl,⟨Lies.nil _ _,Nm.Limbs.nil,rfl,V0.out.symm,fun a h=>by cases h;exact GS.out⟩,hx⟩
  go_wp2
  go_ret
  rw [Gg.out]
  exact FIN.out _ D3.out
 ·have hz':¬(l1:Int)≤kk/32:=by have:=HZ.out;omega
  go_wp2
  go_loop [7,8] (fun f i=>∃(t:Nat) (F:Int),t≤r∧i=.int .i64 t∧f=.int .u64 F∧1≤F∧F≤2147483648∧Hid (F=2^t)) (fun _ i=>r - (intOf i).toNat)
  case atStart=>exact ⟨0,1,Nat.zero_le _,rfl,rfl,by omega,by omega,rfl⟩
  case round=>
   obtain ⟨t,F,ht,rfl,rfl,hF0,hF1,HF⟩:=hrel
   by_cases htl:t<r
   ·have htl':(t:Int)<kk%32:=by have:=HR.out;omega
    obtain ⟨F2,hF2,FF⟩:∃F2,IntKind.u64.wrap (F*2)=F2∧Hid (F2=F*2):=⟨_,by rw [IntKind.wrap_u64,Int.emod_eq_of_lt (by omega) (by omega)],rfl⟩
    have E2:Hid (F2=2^(t+1)):=by rw [Hid,FF.out,HF.out,Nm.two_succ,Int.mul_comm]
    have hF20:1≤F2:=by have:=FF.out;omega
    have hF21:F2≤2147483648:=by
     rw [E2.out]
     have:=Nm.two_mono (show t+1≤31 by omega)
     have e:(2:Int)^31=2147483648:=by decide
     omega
    go_wp2
    go_round
    case rel=>exact ⟨t+1,F2,by omega,by go_num,by first | rfl | rw [hF2],hF20,hF21,E2.out⟩
    case measure=>simp [intOf];omega
   ·have htl':¬(t:Int)<kk%32:=by have:=HR.out;omega
    obtain rfl:t=r:=by omega
    obtain ⟨M,HM⟩:∃M,Hid (l1 - z=M):=⟨_,rfl⟩
    have hmk:=make64 M (by have:=HM.out;omega) w1
    rw [show ((M:Nat):Int)=(l1:Int) - kk/32 by have:=HZ.out;have:=HM.out;omega,Gg.out] at hmk
    have bm:=hid ((Below.refl w1.heap.size w1).alloc (Nat.le_refl _) (.cells (madeCells #[.int .u64 0] M) 24))
    have gm:Own (w1.alloc (.cells (madeCells #[.int .u64 0] M) 24)) w1.heap.size (List.replicate M 0):=by rw [made_zero];exact Own.alloc w1 _
    rw [Gg.out] at bm gm
    generalize w1.alloc (.cells (madeCells #[.int .u64 0] M) 24)=wm at hmk bm gm
    have LD:Hid ((xs.drop z).length=M):=by rw [Hid,List.length_drop,LX.out];exact HM.out
    have I0:Hid (DropInv g M w1 (xs.drop z) F M 0 (List.replicate M 0) wm):=by
     refine ⟨gm,by simp,Nm.Halves.zeros _,?_,?_,bm.out⟩
     ·rw [List.drop_eq_nil_of_le (by simp),List.drop_eq_nil_of_le (by have:=LD.out;omega)];simp [Nm.v32]
     ·rw [List.drop_eq_nil_of_le (by have:=LD.out;omega)];simp [Nm.v32]
    clear gm bm
    go_wp2
    clear hmk
    have FP:Hid (Nm.v32 (xs.drop z)/F=Nm.val za/2^k):=by
     rw [Hid,DV.out,←VX.out,Nm.v32_div xs HX.out z (by have:=LX.out;omega),HF.out]
    have hFz:¬F=0:=by omega
    have hFz':(F == 0)=false:=by rw [beq_eq_false_iff_ne];exact hFz
    go_loopw [10,11] (fun a i wr=>∃(I j:Nat) (rest:Int) (ss:List Int),Hid (I=z+j)∧I≤l1∧i=.int .i64 ((I:Int) - 1)∧a=.int .u64 rest∧0≤rest∧rest<F∧Hid (DropInv g M w1 (xs.drop z) F j rest ss wr)) (fun _ i _=>(intOf i+1).toNat)
    case atStart=>exact ⟨l1,M,0,_,by have:=HM.out;show _=_;omega,Nat.le_refl _,rfl,rfl,by omega,by omega,I0.out⟩
    case round=>
     obtain ⟨I,j,rest,ss,HI,hI,rfl,rfl,hr0,hr1,DI⟩:=hrel
     by_cases hj:j=0
     ·have hge:¬kk/32≤(I:Int) - 1:=by have:=HZ.out;have:=HI.out;omega
      subst hj
      obtain ⟨o1,o2,o3,o4,o5,o6⟩:=DI.out
      simp only [List.drop_zero] at o4
      rw [FP.out] at o4
      have D3:=hid (chain D1.out (by rw [Gg.out];exact o6) (Nat.le_refl _))
      have AG:Hid (Arg wr (some ⟨g,0,none⟩) M M ss):=⟨o2,Nat.le_refl _,by have:=HM.out;omega,o1.lies,o3.limbs⟩
      have hw3:Hid (w.heap.size≤wr.heap.size):=D3.out.size
      have HV:=hid o4
      have HS:=hid o3
      clear o1 o2 o3 o4 o5 o6 DI
      go_wp2_with fail
      refine (rlimbs_any _ M M ss _ AG.out HS.out).mono ?_
      rintro e w4 ⟨r4,os,rfl,hA,hb⟩
      rw [HV.out] at hA
      have A4:=hid (hA.mono hw3.out)
      have D4:=hid (chain D3.out hb (Nat.le_refl _))
      clear hA hb
      go_wp2
      go_ret
      exact ⟨r4,os,rfl,A4.out,D4.out⟩
     ·obtain ⟨u,rfl⟩:∃u,j=u+1:=⟨j - 1,by omega⟩
      obtain ⟨T,rfl⟩:∃T,I=T+1:=⟨I - 1,by have:=HI.out;omega⟩
      have HT:Hid (T=z+u):=by have:=HI.out;show _=_;omega
      have hge:kk/32≤(T:Int):=by have:=HZ.out;have:=HT.out;omega
      have hTl:T<l1:=by omega
      have hTl':(T:Int)<(l1:Int):=by omega
      have huM:u<M:=by have:=HM.out;have:=HT.out;omega
      have hidx:(T:Int) - kk/32=(u:Int):=by have:=HZ.out;have:=HT.out;omega
      obtain ⟨x,hx,X⟩:∃x,wr.cell? ⟨g1,T,none⟩=some (.int .u64 x)∧Hid (x=xs.getD T 0):=⟨_,(DI.out.2.2.2.2.2.cell (p:=⟨g1,T,none⟩) (BX.out hTl)).trans (CX.out T hTl),rfl⟩
      have X2:Hid (x=(xs.drop z).getD u 0):=by rw [Hid,X.out,HT.out];simp [List.getD,List.getElem?_drop]
      have hx0:0≤x:=by have:=HX.out.at T;have:=X.out;omega
      have hx1:x<4294967296:=by have:=HX.out.at T;have:=X.out;omega
      obtain ⟨pv,hpv⟩:∃pv,wr.cell? ⟨g,u,none⟩=some (.int .u64 pv):=⟨_,DI.out.1.cell u (by have:=DI.out.2.1;omega)⟩
      have hfr:=DI.out.1.free u
      obtain ⟨m0,hm0,M0⟩:∃m0,IntKind.u64.wrap (rest*4294967296)=m0∧Hid (m0=rest*4294967296):=⟨_,by rw [IntKind.wrap_u64,Int.emod_eq_of_lt (by omega) (by omega)],rfl⟩
      have hm00:0≤m0:=by have:=M0.out;omega
      have hm01:m0≤9223372032559808512:=by have:=M0.out;omega
      obtain ⟨tt,htt,TT⟩:∃tt,IntKind.u64.wrap (m0+x)=tt∧Hid (tt=m0+x):=⟨_,by rw [IntKind.wrap_u64,Int.emod_eq_of_lt (by omega) (by omega)],rfl⟩
      have htt0:0≤tt:=by have:=TT.out;omega
      have htt1:tt≤9223372036854775807:=by have:=TT.out;omega
      obtain ⟨q,hq,Q⟩:∃q,tt/F=q∧Hid (q=tt/F):=⟨_,rfl,rfl⟩
      obtain ⟨rr,hrr,RR⟩:∃rr,tt%F=rr∧Hid (rr=tt%F):=⟨_,rfl,rfl⟩
      have ET:Hid (tt=rest*4294967296+x):=by rw [Hid,TT.out,M0.out]
      have hq0:0≤q:=by rw [Q.out];exact Int.ediv_nonneg htt0 (by omega)
      have hq1:q<4294967296:=by
       rw [Q.out,Int.ediv_lt_iff_lt_mul (by omega)]
       have:=ET.out
       omega
      have hrr0:0≤rr:=by rw [RR.out];exact Int.emod_nonneg _ hFz
      have hrr1:rr<F:=by rw [RR.out];exact Int.emod_lt_of_pos _ (by omega)
      have NX:=hid (DI.out.step (x:=x) (q:=q) (r:=rr) LD.out huM (by omega) X2.out (by rw [←ET.out];exact Q.out) (by rw [←ET.out];exact RR.out) hq0 hq1)
      have huM':(u:Int)<(M:Int):=by omega
      clear DI
      go_wp2
      go_roundw
      case rel=>exact ⟨T,u,rr,_,HT.out,by omega,by go_num,by first | rfl | rw [hrr],hrr0,hrr1,NX.out⟩
      case measure=>simp [intOf]
end Go.Proofs.YtbdhlfklcdegdaaGreatDoor

namespace Go.Proofs.YtbdhlfklcdegdaaGreatDoor
open Go Go.RowKit Go.Deep
set_option maxRecDepth 100000 in
set_option maxHeartbeats 4000000 in
theorem zwhole_low (d:Int) (w:World) (h0:0≤d) (h1:d<18446744073709551616) (r m:Int) (c:Int) (k:Nat) (hr:d%9223372036854775808=r) (hf:r<9218868437227405312) (hc:Ie.cls d=c) (hm:Ie.dm d=m) (he:Ie.de d=(-(k:Int))) (hk:0<k) (hk2:k≤1074) (mb:0≤m∧m<9007199254740992) (hw:Ie.whp r=m/2^k):
  Calls Tryz.prog 83 #[.int .u64 d] w fun e w'=>WholeTold d w e w':=by
 have F:=zfinite_any d w h0 h1
 rw [decide_eq_true (by omega)] at F
 have F:=hid F
 have D:=hid (zdecode_any d w h0 h1)
 rw [hc,hm,he] at D
 simp only [partsOf] at D
 obtain ⟨neg,hneg⟩:∃neg,decide (9223372036854775808≤d)=neg:=⟨_,rfl⟩
 rw [hneg] at D
 have FU:Hid (∀(wx:World) (b:Nat) (u:Int),u=(k:Int)→Arg wx (some ⟨b,0,none⟩) 1 1 [m]→Calls Tryz.prog 139 #[.slice (some ⟨b,0,none⟩) 1 1,.int .i64 u] wx fun e w'=>∃r os,e=.returned (.slice r (List.length os) (List.length os))∧Ans wx.heap.size w' r os (m/2^k)∧Below wx.heap.size wx w'):=by
  intro wx b u hu A
  have:=drop_any (some ⟨b,0,none⟩) 1 1 [m] u k wx A (by have:=Nm.tsize_le [m];simp at this;omega) hu (by omega)
  rw [show Nm.val [m]=m by simp [Nm.val]] at this
  exact this
 have WT:Hid (∀(w2:World) (p:Option Addr) (os:List Int) (B:Nat),w.heap.size≤B→Ans B w2 p os (m/2^k)→Below w.heap.size w w2→WholeTold d w (.returned (.tuple #[.bool neg,.slice p (List.length os) (List.length os),.int .i64 0])) w2):=by
  intro w2 p os B hB A hb
  refine ⟨p,os,by rw [hneg],?_,hb⟩
  rw [hr,hw]
  exact ⟨A.1,A.2.1,A.2.2.1,A.2.2.2.1,fun a h=>by have:=A.2.2.2.2 a h;omega⟩
 have WK:IntKind.i64.wrap (k:Int)=(k:Int):=by rw [IntKind.wrap_i64];omega
 have k1:¬0≤-(k:Int):=by omega
 have k2:(k:Int)≤1074:=by omega
 have MB:=hid mb
 clear hneg hr hf hc hm he hw mb
 go_enter Tryz.func83,Tryz.ntmps83
 go_wp2_with fail
 refine F.out.mono ?_
 rintro e w ⟨rfl,rfl⟩
 go_wp2_with fail
 refine D.out.mono ?_
 rintro e w1 ⟨rfl,hB⟩
 have HB:=hid hB
 clear hB F D
 go_wp2_with fail
 have hb1:=Below.alloc HB.out HB.out.size (.cells #[.bool neg,.int .i64 c,.int .u64 m,.int .i64 (-(k:Int))] 92)
 have HB1:=hid (Below.alloc hb1 hb1.size (.cells #[.int .u64 m] 24))
 have hs1:(w1.alloc (.cells #[.bool neg,.int .i64 c,.int .u64 m,.int .i64 (-(k:Int))] 92)).heap.size=w1.heap.size+1:=by simp
 have hg2:=heap_alloc2_old w1 (.cells #[.bool neg,.int .i64 c,.int .u64 m,.int .i64 (-(k:Int))] 92) (.cells #[.int .u64 m] 24)
 have hg3:=heap_alloc2_new w1 (.cells #[.bool neg,.int .i64 c,.int .u64 m,.int .i64 (-(k:Int))] 92) (.cells #[.int .u64 m] 24)
 have p0:((w1.alloc (.cells #[.bool neg,.int .i64 c,.int .u64 m,.int .i64 (-(k:Int))] 92)).alloc (.cells #[.int .u64 m] 24)).cell? ⟨w1.heap.size,0,none⟩=some (.bool neg):=by simp only [World.cell?,hg2];rfl
 have p3:((w1.alloc (.cells #[.bool neg,.int .i64 c,.int .u64 m,.int .i64 (-(k:Int))] 92)).alloc (.cells #[.int .u64 m] 24)).cell? ⟨w1.heap.size,3,none⟩=some (.int .i64 (-(k:Int))):=by simp only [World.cell?,hg2];rfl
 have AR:=hid (arg_lit hg3 MB.out.1 (by have:=MB.out;omega))
 clear hg2 hg3 hb1 hs1
 generalize (w1.alloc (.cells #[.bool neg,.int .i64 c,.int .u64 m,.int .i64 (-(k:Int))] 92)).alloc (.cells #[.int .u64 m] 24)=wA at *
 have CA:Hid (∀wx w2:World,wx.heap=wA.heap→Below w.heap.size w wx→Below wx.heap.size wx w2→Below w.heap.size w w2∧w2.cell? ⟨w1.heap.size,0,none⟩=some (.bool neg)):=by
  intro wx w2 hh hw hB2
  have lt:w1.heap.size<wx.heap.size:=by rw [hh];exact cell_lt p0
  have eq:wx.cell? ⟨w1.heap.size,0,none⟩=wA.cell? ⟨w1.heap.size,0,none⟩:=World.cell?_of_block (by rw [hh])
  exact ⟨hw.trans (hB2.mono hw.size),by rw [hB2.cell (p:=⟨w1.heap.size,0,none⟩) lt,eq];exact p0⟩
 have HS:=hid (show w.heap.size≤wA.heap.size from HB1.out.size)
 have FU2:=hid (fun (u:Int) (hu:u=(k:Int))=>FU.out wA.drew (w1.heap.size+1) u hu (AR.out.below (below_drew1 (Below.refl _ _)) (Nat.le_refl _)))
 clear FU AR MB
 go_region_with (go_at_call 139;refine (FU2.out _ ?_).mono ?_;(first | rfl | omega);rintro e w2 ⟨p,os,rfl,A,hB2⟩;obtain ⟨hB3,k0⟩:=CA.out wA.drew w2 rfl (below_drew1 HB1.out) hB2;have KK:=hid (WT.out w2 p os _ HS.out A hB3);clear A hB2 hB3)
 all_goals (go_wp2_with fail;go_ret3;exact KK.out)
set_option maxRecDepth 100000 in
set_option maxHeartbeats 4000000 in
theorem zwhole_high (d:Int) (w:World) (h0:0≤d) (h1:d<18446744073709551616) (r m:Int) (c:Int) (k:Nat) (hr:d%9223372036854775808=r) (hf:r<9218868437227405312) (hc:Ie.cls d=c) (hm:Ie.dm d=m) (he:Ie.de d=(k:Int))  (hk2:k≤1074) (mb:0≤m∧m<9007199254740992) (hw:Ie.whp r=m*2^k):
  Calls Tryz.prog 83 #[.int .u64 d] w fun e w'=>WholeTold d w e w':=by
 have F:=zfinite_any d w h0 h1
 rw [decide_eq_true (by omega)] at F
 have F:=hid F
 have D:=hid (zdecode_any d w h0 h1)
 rw [hc,hm,he] at D
 simp only [partsOf] at D
 obtain ⟨neg,hneg⟩:∃neg,decide (9223372036854775808≤d)=neg:=⟨_,rfl⟩
 rw [hneg] at D
 have FU:Hid (∀(wx:World) (b:Nat) (u:Int),u=(k:Int)→Arg wx (some ⟨b,0,none⟩) 1 1 [m]→Calls Tryz.prog 138 #[.slice (some ⟨b,0,none⟩) 1 1,.int .i64 u] wx fun e w'=>∃r os,e=.returned (.slice r (List.length os) (List.length os))∧Ans wx.heap.size w' r os (m*2^k)∧Below wx.heap.size wx w'):=by
  intro wx b u hu A
  have:=lift_any (some ⟨b,0,none⟩) 1 1 [m] u k wx A (by have:=Nm.tsize_le [m];simp at this;omega) hu (by omega)
  rw [show Nm.val [m]=m by simp [Nm.val]] at this
  exact this
 have WT:Hid (∀(w2:World) (p:Option Addr) (os:List Int) (B:Nat),w.heap.size≤B→Ans B w2 p os (m*2^k)→Below w.heap.size w w2→WholeTold d w (.returned (.tuple #[.bool neg,.slice p (List.length os) (List.length os),.int .i64 0])) w2):=by
  intro w2 p os B hB A hb
  refine ⟨p,os,by rw [hneg],?_,hb⟩
  rw [hr,hw]
  exact ⟨A.1,A.2.1,A.2.2.1,A.2.2.2.1,fun a h=>by have:=A.2.2.2.2 a h;omega⟩
 have WK:IntKind.i64.wrap (k:Int)=(k:Int):=by rw [IntKind.wrap_i64];omega
 have k1:0≤(k:Int):=by omega
 have k2:(k:Int)≤1074:=by omega
 have MB:=hid mb
 clear hneg hr hf hc hm he hw mb
 go_enter Tryz.func83,Tryz.ntmps83
 go_wp2_with fail
 refine F.out.mono ?_
 rintro e w ⟨rfl,rfl⟩
 go_wp2_with fail
 refine D.out.mono ?_
 rintro e w1 ⟨rfl,hB⟩
 have HB:=hid hB
 clear hB F D
 go_wp2_with fail
 have hb1:=Below.alloc HB.out HB.out.size (.cells #[.bool neg,.int .i64 c,.int .u64 m,.int .i64 (k:Int)] 92)
 have HB1:=hid (Below.alloc hb1 hb1.size (.cells #[.int .u64 m] 24))
 have hs1:(w1.alloc (.cells #[.bool neg,.int .i64 c,.int .u64 m,.int .i64 (k:Int)] 92)).heap.size=w1.heap.size+1:=by simp
 have hg2:=heap_alloc2_old w1 (.cells #[.bool neg,.int .i64 c,.int .u64 m,.int .i64 (k:Int)] 92) (.cells #[.int .u64 m] 24)
 have hg3:=heap_alloc2_new w1 (.cells #[.bool neg,.int .i64 c,.int .u64 m,.int .i64 (k:Int)] 92) (.cells #[.int .u64 m] 24)
 have p0:((w1.alloc (.cells #[.bool neg,.int .i64 c,.int .u64 m,.int .i64 (k:Int)] 92)).alloc (.cells #[.int .u64 m] 24)).cell? ⟨w1.heap.size,0,none⟩=some (.bool neg):=by simp only [World.cell?,hg2];rfl
 have p3:((w1.alloc (.cells #[.bool neg,.int .i64 c,.int .u64 m,.int .i64 (k:Int)] 92)).alloc (.cells #[.int .u64 m] 24)).cell? ⟨w1.heap.size,3,none⟩=some (.int .i64 (k:Int)):=by simp only [World.cell?,hg2];rfl
 have AR:=hid (arg_lit hg3 MB.out.1 (by have:=MB.out;omega))
 clear hg2 hg3 hb1 hs1
 generalize (w1.alloc (.cells #[.bool neg,.int .i64 c,.int .u64 m,.int .i64 (k:Int)] 92)).alloc (.cells #[.int .u64 m] 24)=wA at *
 have CA:Hid (∀wx w2:World,wx.heap=wA.heap→Below w.heap.size w wx→Below wx.heap.size wx w2→Below w.heap.size w w2∧w2.cell? ⟨w1.heap.size,0,none⟩=some (.bool neg)):=by
  intro wx w2 hh hw hB2
  have lt:w1.heap.size<wx.heap.size:=by rw [hh];exact cell_lt p0
  have eq:wx.cell? ⟨w1.heap.size,0,none⟩=wA.cell? ⟨w1.heap.size,0,none⟩:=World.cell?_of_block (by rw [hh])
  exact ⟨hw.trans (hB2.mono hw.size),by rw [hB2.cell (p:=⟨w1.heap.size,0,none⟩) lt,eq];exact p0⟩
 have HS:=hid (show w.heap.size≤wA.heap.size from HB1.out.size)
 have FU2:=hid (fun (u:Int) (hu:u=(k:Int))=>FU.out wA.drew (w1.heap.size+1) u hu (AR.out.below (below_drew1 (Below.refl _ _)) (Nat.le_refl _)))
 clear FU AR MB
 go_region_with (go_at_call 138;refine (FU2.out _ ?_).mono ?_;(first | rfl | omega);rintro e w2 ⟨p,os,rfl,A,hB2⟩;obtain ⟨hB3,k0⟩:=CA.out wA.drew w2 rfl (below_drew1 HB1.out) hB2;have KK:=hid (WT.out w2 p os _ HS.out A hB3);clear A hB2 hB3)
 all_goals (go_wp2_with fail;go_ret3;exact KK.out)
theorem zwhole_fin (d:Int) (w:World) (h0:0≤d) (h1:d<18446744073709551616) (hf:d%9223372036854775808<9218868437227405312):
  Calls Tryz.prog 83 #[.int .u64 d] w fun e w'=>WholeTold d w e w':=by
 rcases Ie.dec_kinds d _ rfl with ⟨c,m,x,k1⟩ | ⟨c,m,x,k1,k2⟩ | ⟨c,m,x,k1,k2⟩ | ⟨c,m,x,k1⟩ | ⟨c,m,x,k1,k2⟩
 ·exact zwhole_high d w h0 h1 _ 0 _ 0 rfl hf c m x (by omega) (by omega) (by rw [k1,Ie.whp_zero];rfl)
 ·have e0:Ie.ex (d%9223372036854775808)=0:=by rw [Ie.ex];omega
  have m0:Ie.man (d%9223372036854775808)=d%9223372036854775808:=by rw [Ie.man,if_pos k2]
  exact zwhole_low d w h0 h1 _ _ _ 1074 rfl hf c m x (by omega) (by omega) (by omega) (by rw [Ie.whp_low _ 1074 (by omega),m0])
 ·have mb:=Ie.man_nn (d%9223372036854775808) (by omega)
  have eb:(Ie.ex (d%9223372036854775808):Int)≤2045:=by simp only [Ie.ex];omega
  rcases (show (Ie.ex (d%9223372036854775808):Int)<1074∨1074≤(Ie.ex (d%9223372036854775808):Int) by omega) with h | h
  ·obtain ⟨k,hk⟩:∃k:Nat,(Ie.ex (d%9223372036854775808):Int)+k=1074:=⟨(1074 - (Ie.ex (d%9223372036854775808):Int)).toNat,by omega⟩
   exact zwhole_low d w h0 h1 _ _ _ k rfl hf c m (by rw [x];omega) (by omega) (by omega) mb (Ie.whp_low _ k hk)
  ·obtain ⟨k,hk⟩:∃k:Nat,(Ie.ex (d%9223372036854775808):Int)=1074+k:=⟨((Ie.ex (d%9223372036854775808):Int) - 1074).toNat,by omega⟩
   exact zwhole_high d w h0 h1 _ _ _ k rfl hf c m (by rw [x];omega) (by omega) mb (Ie.whp_high _ k hk).1
 ·omega
 ·omega
end Go.Proofs.YtbdhlfklcdegdaaGreatDoor

namespace Go.Proofs.YtbdhlfklcdegdaaGreatDoor
open Go Go.RowKit Go.Deep
set_option maxRecDepth 100000 in
theorem zintegral_inf (d:Int) (w:World) (h0:0≤d) (h1:d<18446744073709551616) (hr:9218868437227405312≤d%9223372036854775808):
  Calls Tryz.prog 82 #[.int .u64 d] w fun e w'=>e=.returned (.bool false)∧w'=w:=by
 have F:=zfinite_any d w h0 h1
 rw [decide_eq_false (by omega)] at F
 have F:=hid F
 clear hr
 go_enter Tryz.func82,Tryz.ntmps82
 go_wp2_with fail
 refine F.out.mono ?_
 rintro e w' ⟨rfl,rfl⟩
 go_wp2_with fail
 go_ret
 exact ⟨rfl,rfl⟩
set_option maxRecDepth 100000 in
set_option maxHeartbeats 4000000 in
theorem zintegral_yes (d:Int) (w:World) (h0:0≤d) (h1:d<18446744073709551616) (hr:d%9223372036854775808<9218868437227405312) (m x:Int) (hm:Ie.dm d=m) (hx:Ie.de d=x) (h:m=0∨0≤x):
  Calls Tryz.prog 82 #[.int .u64 d] w fun e w'=>e=.returned (.bool true)∧Below w.heap.size w w':=by
 have F:=zfinite_any d w h0 h1
 rw [decide_eq_true hr] at F
 have F:=hid F
 have D:=hid (zdecode_any d w h0 h1)
 rw [hm,hx] at D
 generalize decide (9223372036854775808≤d)=neg at D
 generalize Ie.cls d=c at D
 simp only [partsOf] at D
 clear hr hm hx
 by_cases mz:m=0
 ·subst mz
  clear h
  go_enter Tryz.func82,Tryz.ntmps82
  go_wp2_with fail
  refine F.out.mono ?_
  rintro e w ⟨rfl,rfl⟩
  go_wp2_with fail
  refine D.out.mono ?_
  rintro e w1 ⟨rfl,hB⟩
  have HB:=hid hB
  clear hB F D
  go_wp2_with fail
  go_ret
  exact ⟨rfl,Below.alloc HB.out HB.out.size _⟩
 ·have mz':(m == 0)=false:=by rw [beq_eq_false_iff_ne];exact mz
  have xn:0≤x:=by omega
  clear h mz
  go_enter Tryz.func82,Tryz.ntmps82
  go_wp2_with fail
  refine F.out.mono ?_
  rintro e w ⟨rfl,rfl⟩
  go_wp2_with fail
  refine D.out.mono ?_
  rintro e w1 ⟨rfl,hB⟩
  have HB:=hid hB
  clear hB F D
  go_wp2_with fail
  go_ret
  exact ⟨by simp,Below.alloc HB.out HB.out.size _⟩
set_option maxRecDepth 100000 in
set_option maxHeartbeats 4000000 in
theorem zintegral_low (d:Int) (w:World) (h0:0≤d) (h1:d<18446744073709551616) (hr:d%9223372036854775808<9218868437227405312) (m x:Int) (hm:Ie.dm d=m) (hx:Ie.de d=x) (mp:0<m) (mb:m<9007199254740992) (xn:x<0) (xb:-1074≤x) (T:Nat) (hT:Nm.Trl m T) (hTb:T≤64):
  Calls Tryz.prog 82 #[.int .u64 d] w fun e w'=>e=.returned (.bool (decide (0≤x+T)))∧Below w.heap.size w w':=by
 have F:=zfinite_any d w h0 h1
 rw [decide_eq_true hr] at F
 have F:=hid F
 have D:=hid (zdecode_any d w h0 h1)
 rw [hm,hx] at D
 have ZT:Hid (∀(wx:World) (b:Nat),Arg wx (some ⟨b,0,none⟩) 1 1 [m]→Calls Tryz.prog 137 #[.slice (some ⟨b,0,none⟩) 1 1] wx fun e w'=>e=.returned (.int .i64 (T:Int))∧w'=wx):=by
  intro wx b A
  refine (refTrail_any (some ⟨b,0,none⟩) 1 1 [m] wx A).mono ?_
  rintro r w' ⟨⟨t,rfl,h⟩,rfl⟩
  rw [show Nm.val [m]=m by simp [Nm.val]] at h
  rw [Nm.Trl.unique h hT]
  exact ⟨rfl,rfl⟩
 generalize decide (9223372036854775808≤d)=neg at D
 generalize Ie.cls d=c at D
 simp only [partsOf] at D
 have mz':(m == 0)=false:=by rw [beq_eq_false_iff_ne];omega
 have xn':¬0≤x:=by omega
 have t1:(T:Int)≤64:=by omega
 have WX:IntKind.i64.wrap (-x)=-x:=by rw [IntKind.wrap_i64];omega
 have MB:=hid (show 0≤m∧m<18446744073709551616 by omega)
 clear hr hm hx hT hTb mp mb
 go_enter Tryz.func82,Tryz.ntmps82
 go_wp2_with fail
 refine F.out.mono ?_
 rintro e w ⟨rfl,rfl⟩
 go_wp2_with fail
 refine D.out.mono ?_
 rintro e w1 ⟨rfl,hB⟩
 have HB:=hid hB
 clear hB F D
 go_wp2_with fail
 have HB1:=hid (Below.alloc HB.out HB.out.size (.cells #[.bool neg,.int .i64 c,.int .u64 m,.int .i64 x] 92))
 have hg:=heap_alloc_new w1 (.cells #[.bool neg,.int .i64 c,.int .u64 m,.int .i64 x] 92)
 have p2:(w1.alloc (.cells #[.bool neg,.int .i64 c,.int .u64 m,.int .i64 x] 92)).cell? ⟨w1.heap.size,2,none⟩=some (.int .u64 m):=by simp only [World.cell?,hg];rfl
 have p3:(w1.alloc (.cells #[.bool neg,.int .i64 c,.int .u64 m,.int .i64 x] 92)).cell? ⟨w1.heap.size,3,none⟩=some (.int .i64 x):=by simp only [World.cell?,hg];rfl
 clear hg
 generalize w1.alloc (.cells #[.bool neg,.int .i64 c,.int .u64 m,.int .i64 x] 92)=wA at *
 have hb2:Below w.heap.size w (wA.drew.alloc (.cells #[.int .u64 m] 24)):=Below.alloc (below_drew1 HB1.out) (below_drew1 HB1.out).size _
 have p3a:(wA.drew.alloc (.cells #[.int .u64 m] 24)).cell? ⟨w1.heap.size,3,none⟩=some (.int .i64 x):=by
  rw [(alloc_below wA.drew _).cell (p:=⟨w1.heap.size,3,none⟩) (cell_lt p3)];exact p3
 have Z2:Hid (∀g:Obj,g=.cells #[.int .u64 m] 24→Calls Tryz.prog 137 #[.slice (some ⟨wA.heap.size,0,none⟩) 1 1] (wA.drew.alloc g) fun e w'=>e=.returned (.int .i64 (T:Int))∧w'.cell? ⟨w1.heap.size,3,none⟩=some (.int .i64 x)∧Below w.heap.size w w'):=by
  intro g hg
  subst hg
  refine (ZT.out (wA.drew.alloc (.cells #[.int .u64 m] 24)) wA.heap.size (arg_lit (heap_alloc_new wA.drew _) MB.out.1 MB.out.2)).mono ?_
  rintro e w2 ⟨rfl,rfl⟩
  exact ⟨rfl,p3a,hb2⟩
 clear hb2 ZT MB
 have hlt:w1.heap.size<wA.heap.size:=cell_lt p3
 have hne:¬w1.heap.size=wA.heap.size:=by omega
 have hne2:¬wA.heap.size=w1.heap.size:=by omega
 go_region_with (go_at_call 137;refine (Z2.out _ rfl).mono ?_;rintro e w2 ⟨rfl,k3,hB3⟩;have HB3:=hid hB3;clear hB3)
 all_goals (go_wp2_with fail;go_ret;exact ⟨ret_bool (by first | (rw [WX,decide_eq_decide];omega) | (rw [decide_eq_decide];omega)),HB3.out⟩)
end Go.Proofs.YtbdhlfklcdegdaaGreatDoor

namespace Go.Proofs.YtbdhlfklcdegdaaGreatDoor
open Go Go.RowKit Go.Deep
theorem zintegral_any (d:Int) (w:World) (h0:0≤d) (h1:d<18446744073709551616):
  Calls Tryz.prog 82 #[.int .u64 d] w fun e w'=>e=.returned (.bool (Ie.intg d))∧Below w.heap.size w w':=by
 by_cases hf:d%9223372036854775808<9218868437227405312
 ·have key:∀b:Bool,(b=true↔Ie.vl (d%9223372036854775808)=Ie.whp (d%9223372036854775808)*2^1075)→Ie.intg d=b:=by
   intro b hb
   rw [Ie.intg]
   cases b
   ·rw [decide_eq_false_iff_not];intro hh;have:=hb.2 hh.2;cases this
   ·rw [decide_eq_true_iff];exact ⟨hf,hb.1 rfl⟩
  rcases Ie.dec_kinds d _ rfl with ⟨c,m,x,k1⟩ | ⟨c,m,x,k1,k2⟩ | ⟨c,m,x,k1,k2⟩ | ⟨c,m,x,k1⟩ | ⟨c,m,x,k1,k2⟩
  ·rw [key true ⟨fun _=>by rw [k1,Ie.vl_zero,Ie.whp_zero,Int.zero_mul],fun _=>rfl⟩]
   exact zintegral_yes d w h0 h1 hf 0 0 m x (.inl rfl)
  ·have e0:Ie.ex (d%9223372036854775808)=0:=by rw [Ie.ex];omega
   have m0:Ie.man (d%9223372036854775808)=d%9223372036854775808:=by rw [Ie.man,if_pos k2]
   obtain ⟨n,hn⟩:=Int.eq_ofNat_of_zero_le (show 0≤d%9223372036854775808 by omega)
   obtain ⟨q,hq,hlt⟩:=Lib.ctzFrom_spec 64 n (by omega) (by simpa using (show n<18446744073709551616 by omega))
   have hi:=Ie.intg_iff (d%9223372036854775808) (d%9223372036854775808) (q:Int) (Lib.ctzFrom 64 n) m0 (by rw [hn];exact ctz_int n q _ hq)
   rw [key (decide (0≤(-1074:Int)+(Lib.ctzFrom 64 n:Int))) (by rw [hi,e0,decide_eq_true_iff];omega)]
   exact zintegral_low d w h0 h1 hf _ _ m x k1 (by omega) (by omega) (by omega) _ (.inr ⟨q,by rw [hn];exact ctz_int n q _ hq⟩) (by omega)
  ·have mb:=Ie.man_nn (d%9223372036854775808) (by omega)
   have mp:0<Ie.man (d%9223372036854775808):=by rw [Ie.man,if_neg (by omega)];omega
   have eb:(Ie.ex (d%9223372036854775808):Int)≤2045:=by simp only [Ie.ex];omega
   obtain ⟨n,hn⟩:=Int.eq_ofNat_of_zero_le mb.1
   obtain ⟨q,hq,hlt⟩:=Lib.ctzFrom_spec 64 n (by omega) (by simpa using (show n<18446744073709551616 by omega))
   have hi:=Ie.intg_iff (d%9223372036854775808) _ (q:Int) (Lib.ctzFrom 64 n) hn (ctz_int n q _ hq)
   by_cases hx:0≤(Ie.ex (d%9223372036854775808):Int) - 1074
   ·rw [key true ⟨fun _=>hi.2 (by omega),fun _=>rfl⟩]
    exact zintegral_yes d w h0 h1 hf _ _ m x (.inr hx)
   ·rw [key (decide (0≤(Ie.ex (d%9223372036854775808):Int) - 1074+(Lib.ctzFrom 64 n:Int))) (by rw [hi,decide_eq_true_iff])]
    exact zintegral_low d w h0 h1 hf _ _ m x mp (by omega) (by omega) (by omega) _ (.inr ⟨q,by rw [hn];exact ctz_int n q _ hq⟩) (by omega)
  ·omega
  ·omega
 ·have:Ie.intg d=false:=by rw [Ie.intg,decide_eq_false_iff_not];intro h;exact hf h.1
  rw [this]
  exact (zintegral_inf d w h0 h1 (by omega)).mono fun e w' k=>⟨k.1,by rw [k.2];exact Below.refl _ _⟩
end Go.Proofs.YtbdhlfklcdegdaaGreatDoor
