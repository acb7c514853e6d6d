/-
  Texts put together: Shl, FShl, QTake, NTrim.
-/
import Derived.Test.YtbdhlfklcdegdaaGreatDoorWAJ
import Derived.Test.YtbdhlfklcdegdaaGreatDoorWAL
import Derived.Test.YtbdhlfklcdegdaaGreatDoorWAH
import Derived.Test.YtbdhlfklcdegdaaGreatDoorWAC
import Derived.Deep.RegionWith
import Derived.Deep.CutRange
namespace Go.Proofs.YtbdhlfklcdegdaaGreatDoor
open Go.RowKit Go.Deep
theorem ret_two {p:Option Addr} {a b:Nat} (h:a=b):Ending.returned (.tuple #[.slice p a a,.int .i64 0])=.returned (.tuple #[.slice p b b,.int .i64 0]):=by rw [h]
theorem lshift_ok (p:Option Addr) (n cap:Nat) (zs:List Int) (k:Int) (w:World) (ha:Arg w p n cap zs) (tz:Nm.tsize zs≤4096) (hk:0≤k):
  Calls Tryz.prog 226 #[.slice p n cap,.int .i64 k] w fun e w'=>e=.returned (.tuple #[.slice p (Nm.tsize zs) (Nm.tsize zs),.int .i64 0])∧w'=w:=by
 obtain ⟨a1,a2,a3,a4,a5⟩:=ha
 have HT:=hid (limited_ok p n cap zs w a1 a2 (by omega) a4 tz)
 go_enter Tryz.func226,Tryz.ntmps226
 go_wp2_with fail
 refine HT.out.mono ?_
 rintro e w' ⟨rfl,rfl⟩
 go_wp2_with fail
 go_ret2
 exact ⟨rfl,rfl⟩
theorem bitLen_n (L:Nat) (p:Option Addr) (n cap:Nat) (zs:List Int) (w:World) (ha:Arg w p n cap zs) (hb:blen zs=(L:Int)):
  Calls Tryz.prog 59 #[.slice p n cap] w fun e w'=>e=.returned (.int .i64 (L:Int))∧w'=w:=by
 rw [←hb]
 exact bitLen_any p n cap zs w ha
theorem Arg.trim' {w:World} {p:Option Addr} {n cap:Nat} {zs:List Int} (h:Arg w p n cap zs):Arg w p (Nm.tsize zs) (Nm.tsize zs) (Nm.trim zs):=
 ⟨Nm.trim_length zs,Nat.le_refl _,by have:=h.tl;have:=h.2.1;have:=h.2.2.1;omega,h.2.2.2.1.trim,h.2.2.2.2.trim⟩
theorem shl_zero (p:Option Addr) (n cap:Nat) (zs:List Int) (k:Int) (w:World) (ha:Arg w p n cap zs) (hk:0≤k) (hz:Nm.tsize zs=0):
  Calls Tryz.prog 255 #[.slice p n cap,.int .i64 k] w fun e w'=>e=.returned (.tuple #[.slice none 0 0,.int .i64 0])∧w'=w:=by
 have HT:=lshift_ok p n cap zs k w ha (by omega) hk
 rw [hz] at HT
 have H:=hid HT
 clear HT hz ha
 go_enter Tryz.func255,Tryz.ntmps255
 go_wp2_with fail
 refine H.out.mono ?_
 rintro e w' ⟨rfl,rfl⟩
 go_wp2_with fail
 go_ret2
 exact ⟨rfl,rfl⟩
set_option maxRecDepth 100000 in
set_option maxHeartbeats 1000000 in
theorem shl_ok (p:Option Addr) (n cap:Nat) (zs:List Int) (kk:Int) (k:Nat) (L:Nat) (w:World) (ha:Arg w p n cap zs) (tz:Nm.tsize zs≤4096) (hkk:kk=(k:Int)) (hz:0<Nm.tsize zs) (hL:blen (Nm.trim zs)=(L:Int)) (hb:L+k≤262144):
  Calls Tryz.prog 255 #[.slice p n cap,.int .i64 kk] w fun e w'=>∃r os,e=.returned (.tuple #[.slice r (List.length os) (List.length os),.int .i64 0])∧Ans w.heap.size w' r os (Nm.val zs*2^k)∧Below w.heap.size w w':=by
 have hk0:0≤kk:=by omega
 have T1:=lshift_ok p n cap zs kk w ha tz hk0
 have B1:=bitLen_n L p _ _ (Nm.trim zs) w ha.trim' hL
 obtain ⟨N,HN⟩:∃N,Hid (Nm.tsize zs=N):=⟨_,rfl⟩
 rw [HN.out] at T1 B1
 have HT:=hid T1
 have HB:=hid B1
 have hN0:0<N:=by rw [←HN.out];exact hz
 have hN1:N≤4096:=by rw [←HN.out];exact tz
 have hz':((N:Int) == 0)=false:=by rw [beq_eq_false_iff_ne];omega
 have hb1:¬262144 - kk<(L:Int):=by omega
 have hkb:kk≤262144:=by omega
 obtain ⟨sk,hsk⟩:∃sk,k/64=sk:=⟨_,rfl⟩
 obtain ⟨r,hr⟩:∃r,k%64=r:=⟨_,rfl⟩
 have r1:kk/64=(sk:Int):=by omega
 have r2:kk%64=(r:Int):=by omega
 have hr63:r≤63:=by omega
 have hskb:sk≤4096:=by omega
 have KE:Hid (k=64*sk+r):=by show _=_;omega
 have L1:=hid ((Nm.trim_length zs).trans HN.out)
 have A5:=hid ha.2.2.2.2.trim
 obtain ⟨b,off,rfl,hbw,HC⟩:=ha.2.2.2.1.trim.at (by rw [L1.out];exact hN0)
 have V:=hid (Nm.val_trim zs)
 clear T1 B1 ha tz hz hL hkk hsk hr
 have hmk:=make64 (sk+N+1) (by omega) w
 have em:((sk+N+1:Nat):Int)=(sk:Int)+(N:Int)+1:=by omega
 rw [em] at hmk
 clear em
 have ho:Own (w.alloc (.cells (madeCells #[.int .u64 0] (sk+N+1)) 24)) w.heap.size (List.replicate (sk+N+1) 0):=by
  rw [made_zero];exact Own.alloc w _
 have hb0:Below w.heap.size w (w.alloc (.cells (madeCells #[.int .u64 0] (sk+N+1)) 24)):=(Below.refl _ _).alloc (Nat.le_refl _) _
 obtain ⟨W0,hW0⟩:∃W0,w.alloc (.cells (madeCells #[.int .u64 0] (sk+N+1)) 24)=W0:=⟨_,rfl⟩
 have HB0:Hid (Below w.heap.size w W0):=by rw [←hW0];exact hb0
 have I0:MaInv w.heap.size (sk+N+1) W0 (Nm.pw sk*(Nm.val ((Nm.trim zs).take 0)*2^r)) (sk+0) 0 (List.replicate (sk+N+1) 0) W0:=by
  rw [←hW0]
  exact ⟨⟨ho,by simp,Nm.Limbs.replicate _,by simp [Nm.val_replicate,Nm.val],Below.refl _ _,rfl⟩,by omega,fun i _=>getD_replicate _ _⟩
 have P0:=Nm.two_pos r
 have HP0:=hid P0
 clear ho hb0 P0
 rw [hW0] at hmk
 clear hW0
 go_enter Tryz.func255,Tryz.ntmps255
 go_wp2_with fail
 refine HT.out.mono ?_
 rintro e w' ⟨rfl,rfl⟩
 go_wp2_with fail
 refine HB.out.mono ?_
 rintro e w' ⟨rfl,rfl⟩
 go_wp2_with fail
 go_loopw [10,43] (fun a i wr=>∃(j:Nat) (sp:Int) (os:List Int),j≤N∧i=.int .i64 j∧a=.int .u64 sp∧Hid (sp<2^r)∧MaInv w'.heap.size (sk+N+1) W0 (Nm.pw sk*(Nm.val ((Nm.trim zs).take j)*2^r)) (sk+j) sp os wr) (fun _ i _=>N - (intOf i).toNat)
 case atStart=>exact ⟨0,0,_,Nat.zero_le _,rfl,rfl,HP0.out,I0⟩
 case round=>
  clear I0 hmk
  obtain ⟨j,sp,os,hj,rfl,rfl,SP,I⟩:=hrel
  by_cases hlt:j<N
  ·obtain ⟨x,hx,X⟩:∃x,wr.cell? ⟨b,off+j,none⟩=some (.int .u64 x)∧Hid (x=(Nm.trim zs).getD j 0):=
    ⟨_,((HB0.out.trans I.1.2.2.2.2.1).cell (p:=⟨b,off+j,none⟩) hbw).trans (HC.out j (by rw [L1.out];exact hlt)),rfl⟩
   have hx0:=A5.out.at j
   rw [←X.out] at hx0
   obtain ⟨hx0,hx1⟩:=hx0
   obtain ⟨y,hyc⟩:∃y,wr.cell? ⟨w'.heap.size,sk+j,none⟩=some (.int .u64 y):=⟨_,I.1.1.cell (sk+j) (by have:=I.1.2.1;omega)⟩
   have hfr:=I.1.1.free (sk+j)
   obtain ⟨hs0,hs1⟩:=I.2.1
   obtain ⟨A,s,sp',u1,u2,u3,us,usp,E⟩:=Sh.up x sp r hr63 hx0 hx1 hs0 SP.out
   have usp1:=hid usp
   have hP64:(2:Int)^r≤18446744073709551616:=by rw [←Nm.two_64];exact Nm.two_mono (by omega)
   have I2:=I.step (by omega) (x:=x*2^r) (s:=s) (c':=sp') us ⟨usp.1,by omega⟩ E.out
   have T2:Nm.pw sk*(Nm.val ((Nm.trim zs).take j)*2^r)+Nm.pw (sk+j)*(x*2^r)=Nm.pw sk*(Nm.val ((Nm.trim zs).take (j+1))*2^r):=by
    rw [Nm.val_take_succ _ j (by rw [L1.out];exact hlt),←X.out,Nm.pw_add,Int.add_mul,Int.mul_add,Int.mul_assoc,Int.mul_assoc]
   rw [T2] at I2
   clear I T2 hP64 us usp E
   go_wp2
   go_roundw
   case rel=>exact ⟨j+1,sp',_,by omega,by go_num,rfl,usp1.out.2,I2⟩
   case measure=>simp [intOf];omega
  ·have hjN:j=N:=by omega
   subst hjN
   rw [List.take_of_length_le (by rw [L1.out];omega)] at I
   obtain ⟨⟨i1,i2,i3,i4,i5,i6⟩,i7,i8⟩:=I
   have O1:=hid (i1.set (sk+j) sp)
   have O2:Hid ((os.set (sk+j) sp).length=sk+j+1):=by rw [Hid];simpa using i2
   have O3:=hid (i3.set (sk+j) i7.1 i7.2)
   have O4:Hid (Nm.val (os.set (sk+j) sp)=Nm.val zs*2^k):=by
    rw [Hid,Nm.val_set _ _ _ (by omega),i8 (sk+j) (Nat.le_refl _),Int.sub_zero,i4,V.out,Nm.pw_two,Int.mul_left_comm,←Nm.two_add,←KE.out]
   have O5:=hid (HB0.out.trans (i5.setCell (p:=⟨w'.heap.size,sk+j,none⟩) (Nat.le_refl _) (.int .u64 sp)))
   obtain ⟨y,hy⟩:∃y,wr.cell? ⟨w'.heap.size,sk+j,none⟩=some (.int .u64 y):=⟨_,i1.cell (sk+j) (by omega)⟩
   have hfr:=i1.free (sk+j)
   clear i1 i2 i3 i4 i5 i6 i7 i8
   go_wp2_with fail
   refine (trimmed_any _ (sk+j+1) (sk+j+1) (os.set (sk+j) sp) _ O2.out (Nat.le_refl _) (by omega) O1.out.lies).mono ?_
   rintro e w3 ⟨rfl,rfl⟩
   go_wp2_with fail
   go_ret2
   refine ⟨some ⟨w'.heap.size,0,none⟩,Nm.trim (os.set (sk+j) sp),ret_two (Nm.trim_length _).symm,⟨O1.out.lies.trim,O3.out.trim,?_,?_,?_⟩,O5.out⟩
   ·rw [Nm.trim_trim,Nm.trim_length]
   ·rw [Nm.val_trim,O4.out]
   ·intro a h
    cases h
    exact Nat.le_refl _
end Go.Proofs.YtbdhlfklcdegdaaGreatDoor

namespace Go.Proofs.YtbdhlfklcdegdaaGreatDoor
open Go.RowKit Go.Deep
theorem fblen_trim (zs:List Int):blen (Nm.trim zs)=blen zs:=by
 unfold blen
 rw [Nm.trim_trim]
 by_cases h:Nm.tsize zs=0
 ·rw [if_pos h,if_pos h]
 ·rw [if_neg h,if_neg h]
  have e:(Nm.trim zs).getD (Nm.tsize zs - 1) 0=zs.getD (Nm.tsize zs - 1) 0:=by rw [Nm.trim,Nm.getD_take,if_pos (by omega)]
  rw [e]
theorem fpw_4096:Nm.pw 4096=2^262144:=Nm.pw_two 4096
theorem ftwo_lt {a b:Nat} (h:(2:Int)^a<2^b):a<b:=by
 rcases Nat.lt_or_ge a b with h1 | h1
 ·exact h1
 ·have:=Nm.two_mono h1
  omega
theorem FBLen.up {v:Int} {L:Nat} (k:Nat) (h:Nm.BLen v L) (hv:0<v):Nm.BLen (v*2^k) (L+k):=by
 have hp:=Nm.two_pos k
 have h1:=h.2.2 hv
 refine ⟨?_,fun h0=>?_,fun _=>⟨by omega,?_⟩⟩
 ·rw [Nm.two_add]
  exact Int.mul_lt_mul_of_pos_right h.1 hp
 ·rcases Int.mul_eq_zero.1 h0 with h2 | h2 <;> omega
 ·rw [show L+k - 1=L - 1+k by omega,Nm.two_add]
  exact Int.mul_le_mul_of_nonneg_right h1.2 (by omega)
theorem fshl_any (p:Option Addr) (n cap:Nat) (zs:List Int) (kk:Int) (k:Nat) (w:World) (ha:Arg w p n cap zs) (tz:Nm.tsize zs≤4096) (hkk:kk=(k:Int)) (hb:Nm.val zs*2^k<Nm.pw 4096):
  Calls Tryz.prog 255 #[.slice p n cap,.int .i64 kk] w fun e w'=>∃r os,e=.returned (.tuple #[.slice r (List.length os) (List.length os),.int .i64 0])∧Ans w.heap.size w' r os (Nm.val zs*2^k)∧Below w.heap.size w w':=by
 have hv0:=(Nm.val_bd zs ha.2.2.2.2).1
 by_cases hz:Nm.tsize zs=0
 ·have hv:=(Nm.tsize_zero_iff ha.2.2.2.2).1 hz
  refine (shl_zero p n cap zs kk w ha (by omega) hz).mono ?_
  rintro e w' ⟨rfl,rfl⟩
  exact ⟨none,[],rfl,⟨Lies.nil _ _,Nm.Limbs.nil,rfl,by rw [hv,Int.zero_mul];rfl,fun a h=>by cases h⟩,Below.refl _ _⟩
 ·obtain ⟨L,hL,BL,_,_⟩:=blen_is zs ha.2.2.2.2
  rw [←fblen_trim] at hL
  have hv:0<Nm.val zs:=by
   rcases (show Nm.val zs=0∨0<Nm.val zs by omega) with h | h
   ·exact absurd ((Nm.tsize_zero_iff ha.2.2.2.2).2 h) hz
   ·exact h
  have hu:=(FBLen.up k BL hv).2.2 (Int.mul_pos hv (Nm.two_pos k))
  rw [fpw_4096] at hb
  have hlt:=ftwo_lt (show (2:Int)^(L+k - 1)<2^262144 by omega)
  exact shl_ok p n cap zs kk k L w ha tz hkk (by omega) hL (by omega)
end Go.Proofs.YtbdhlfklcdegdaaGreatDoor

namespace Go.Proofs.YtbdhlfklcdegdaaGreatDoor
open Go.RowKit Go.Deep
def PartInv (g k top:Nat) (w:World) (zs:List Int) (T:Int) (j:Nat) (c:Int) (os:List Int) (wr:World):Prop:=
 AddInv g k w T j c os wr∧(∀i,top≤i→os.getD i 0=zs.getD i 0)∧∀b,b≠g→wr.heap[b]?=w.heap[b]?
theorem PartInv.step {g k top:Nat} {w:World} {zs:List Int} {T:Int} {j:Nat} {c:Int} {os:List Int} {wr:World} (h:PartInv g k top w zs T j c os wr) (hj:j<k) (ht:j<top) {x s c':Int}
  (hs0:0≤s∧s<18446744073709551616) (hs:s+18446744073709551616*c'=os.getD j 0+x+c):
  PartInv g k top w zs (T+Nm.pw j*x) (j+1) c' (os.set j s) (wr.setCell ⟨g,j,none⟩ (.int .u64 s)):=by
 obtain ⟨h1,h2,h3⟩:=h
 refine ⟨h1.down hj hs0 hs,fun i hi=>?_,fun b hb=>?_⟩
 ·rw [Nm.getD_set _ _ _ _ (by have:=h1.2.1;omega),if_neg (by omega)]
  exact h2 i hi
 ·rw [←h3 b hb]
  simp only [World.setCell,Array.getElem?_modify]
  rw [if_neg (by omega)]
theorem PartInv.own {g k top:Nat} {w:World} {zs:List Int} {T:Int} {j:Nat} {c:Int} {os:List Int} {wr:World} (h:PartInv g k top w zs T j c os wr) {b:Nat} {xs:List Int} (ho:Own w b xs) (hb:b≠g):Own wr b xs:=by
 simp only [Own] at ho ⊢
 rw [h.2.2 b hb]
 exact ho
theorem take_step {x m y c p l h s1 k1 s2 b:Int} (hp:l+18446744073709551616*h=p) (hl:0≤l∧l<18446744073709551616) (hh:0≤h) (hx:0≤x∧x<18446744073709551616) (hm:0≤m∧m<18446744073709551616) (hxm:p=x*m)
  (hy:0≤y∧y<18446744073709551616) (hc:0≤c∧c<18446744073709551616) (e1:s1=(l+c+0)%18446744073709551616) (e2:k1=(l+c+0)/18446744073709551616)
  (hs:0≤s2∧s2<18446744073709551616) (_hb:0≤b∧b≤1) (e3:s2+18446744073709551616*(-b)=y+(-s1)+(-0)):
  (0≤h+k1+b∧h+k1+b<18446744073709551616)∧s2+18446744073709551616*(-(h+k1+b))=y+(-(x*m))+(-c):=by
 have hbd:x*m≤18446744073709551615*18446744073709551615:=Int.mul_le_mul (by omega) (by omega) (by omega) (by omega)
 rw [←hxm] at hbd ⊢
 clear hxm
 omega
set_option maxRecDepth 100000 in
set_option maxHeartbeats 1000000 in
theorem takeTimes_any (g k o n n1 cap:Nat) (zs:List Int) (q:Option Addr) (cap':Nat) (ys:List Int) (m:Int) (w:World) (hk:zs.length=k) (hkm:k≤35184372088832) (ho:Own w g zs) (hl:Nm.Limbs zs)
  (hn:ys.length=n) (hn0:0<n) (hn1:n<n1) (hon:o+n<k) (hy:Lies w q ys) (hly:Nm.Limbs ys) (hq:∀a,q=some a→a.block<g) (hm0:0≤m) (hm1:m<18446744073709551616):
  Calls Tryz.prog 331 #[.slice (some ⟨g,o,none⟩) n1 cap,.slice q n cap',.int .u64 m] w fun e w'=>∃(c:Int) (os:List Int),e=.returned (.int .u64 c)∧(0≤c∧c≤1)∧
   Hid (PartInv g k (o+n+1) w zs (Nm.val zs+Nm.pw o*(-(Nm.val ys*m))) (o+n+1) (-c) os w'):=by
 obtain ⟨b,off,rfl,hbw,HC⟩:=hy.at (by omega)
 have hbg:b<g:=hq _ rfl
 have I0:PartInv g k (o+n+1) w zs (Nm.val zs+Nm.pw o*(-(Nm.val (ys.take 0)*m))) (o+0) (-0) zs w:=⟨⟨ho,hk,hl,by simp [Nm.val],Below.refl _ _,rfl⟩,fun _ _=>rfl,fun _ _=>rfl⟩
 have HM:Hid (ys.length=n):=hn
 have HY:Hid (Nm.Limbs ys):=hly
 clear hn hly hq ho hk hl hy
 go_enter Tryz.func331,Tryz.ntmps331
 go_wp2
 go_loopw [7,19] (fun c i wr=>∃(j:Nat) (cc:Int) (os:List Int),j≤n∧i=.int .i64 j∧c=.int .u64 cc∧(0≤cc∧cc<18446744073709551616)∧PartInv g k (o+n+1) w zs (Nm.val zs+Nm.pw o*(-(Nm.val (ys.take j)*m))) (o+j) (-cc) os wr) (fun _ i _=>n - (intOf i).toNat)
 case atStart=>exact ⟨0,0,zs,Nat.zero_le _,rfl,rfl,by omega,I0⟩
 case round=>
  clear I0
  obtain ⟨j,cc,os,hj,rfl,rfl,⟨hcc0,hcc1⟩,I⟩:=hrel
  by_cases hlt:j<n
  ·obtain ⟨x,hx,X⟩:∃x,wr.cell? ⟨b,off+j,none⟩=some (.int .u64 x)∧Hid (x=ys.getD j 0):=
    ⟨_,(I.1.2.2.2.2.1.cell (p:=⟨b,off+j,none⟩) hbg).trans (HC.out j (by have:=HM.out;omega)),rfl⟩
   obtain ⟨y,hyc,Y⟩:∃y,wr.cell? ⟨g,o+j,none⟩=some (.int .u64 y)∧Hid (y=os.getD (o+j) 0):=⟨_,I.1.1.cell (o+j) (by have:=I.1.2.1;omega),rfl⟩
   have hfr:=I.1.1.free (o+j)
   have hx0:0≤x∧x<18446744073709551616:=by have:=HY.out.at j;have:=X.out;omega
   have hy0:0≤y∧y<18446744073709551616:=by have:=I.1.2.2.1.at (o+j);have:=Y.out;omega
   obtain ⟨hx0,hx1⟩:=hx0
   obtain ⟨hy0,hy1⟩:=hy0
   have hjn1:(j:Int)<(n1:Int):=by omega
   go_wp2_with fail
   refine (mul64 x m hx0 hx1 hm0 hm1 _).mono ?_
   rintro e w' ⟨h,l,rfl,⟨hh0,hh1,hl0,hl1⟩,P1,_,rfl⟩
   obtain ⟨s1,S1⟩:∃s,Hid (s=(l+cc+0)%18446744073709551616):=⟨_,rfl⟩
   obtain ⟨k1,K1⟩:∃c,Hid (c=(l+cc+0)/18446744073709551616):=⟨_,rfl⟩
   have hs1:0≤s1:=by have:=S1.out;omega
   have hs2:s1<18446744073709551616:=by have:=S1.out;omega
   obtain ⟨s2,b2,⟨t0,t1⟩,⟨t2,t3⟩,S2⟩:=sub_names y s1 0 hy0 hy1 hs1 hs2 (Int.le_refl 0) (by decide)
   have ST:=hid (take_step P1.out ⟨hl0,hl1⟩ hh0 ⟨hx0,hx1⟩ ⟨hm0,hm1⟩ rfl ⟨hy0,hy1⟩ ⟨hcc0,hcc1⟩ S1.out K1.out ⟨t0,t1⟩ ⟨t2,t3⟩ S2.out)
   have hk1:0≤k1:=by have:=K1.out;omega
   have hkk:h+k1+b2<18446744073709551616:=ST.out.1.2
   go_wp2_with (first | simp only [add64' l cc 0 s1 k1 hl0 hcc0 (Int.le_refl 0) (by decide) S1.out K1.out] | simp only [sub64' y s1 0 s2 b2 hy0 hy1 hs1 hs2 (Int.le_refl 0) (by decide) ⟨t0,t1⟩ ⟨t2,t3⟩ S2.out])
   go_roundw
   case rel=>
    have hst:=I.step (by omega) (by omega) (x:=-(x*m)) (s:=s2) (c':=-(h+k1+b2)) ⟨t0,t1⟩ (by rw [←Y.out];exact ST.out.2)
    refine ⟨j+1,h+k1+b2,os.set (o+j) s2,by omega,by go_num,rfl,ST.out.1,?_⟩
    have e:Nm.val zs+Nm.pw o*(-(Nm.val (ys.take (j+1))*m))=Nm.val zs+Nm.pw o*(-(Nm.val (ys.take j)*m))+Nm.pw (o+j)*(-(x*m)):=by
     rw [Nm.val_take_succ ys j (by have:=HM.out;omega),←X.out,Nm.pw_add,Int.add_mul,Int.mul_neg,Int.mul_neg,Int.mul_neg,Int.mul_add,Int.mul_assoc,Int.mul_assoc]
     omega
    rw [e]
    exact hst
   case measure=>simp [intOf];omega
  ·have hjn:j=n:=by omega
   subst hjn
   rw [List.take_of_length_le (by have:=HM.out;omega)] at I
   obtain ⟨y,hyc,Y⟩:∃y,wr.cell? ⟨g,o+j,none⟩=some (.int .u64 y)∧Hid (y=os.getD (o+j) 0):=⟨_,I.1.1.cell (o+j) (by have:=I.1.2.1;omega),rfl⟩
   have hfr:=I.1.1.free (o+j)
   have hy0:0≤y∧y<18446744073709551616:=by have:=I.1.2.2.1.at (o+j);have:=Y.out;omega
   obtain ⟨hy0,hy1⟩:=hy0
   obtain ⟨s2,b2,⟨t0,t1⟩,⟨t2,t3⟩,S2⟩:=sub_names y cc 0 hy0 hy1 hcc0 hcc1 (Int.le_refl 0) (by decide)
   have hst:=I.step (by omega) (by omega) (x:=0) (s:=s2) (c':=-b2) ⟨t0,t1⟩ (by rw [←Y.out];have:=S2.out;omega)
   rw [Int.mul_zero,Int.add_zero] at hst
   have HS:=hid hst
   clear hst I
   go_wp2_with (simp only [sub64' y cc 0 s2 b2 hy0 hy1 hcc0 hcc1 (Int.le_refl 0) (by decide) ⟨t0,t1⟩ ⟨t2,t3⟩ S2.out])
   go_ret
   exact ⟨b2,os.set (o+j) s2,rfl,⟨t2,t3⟩,HS.out⟩
set_option maxRecDepth 100000 in
set_option maxHeartbeats 1000000 in
theorem giveBack_any (g k o n n1 cap:Nat) (zs:List Int) (q:Option Addr) (cap':Nat) (ys:List Int) (w:World) (hk:zs.length=k) (hkm:k≤35184372088832) (ho:Own w g zs) (hl:Nm.Limbs zs)
  (hn:ys.length=n) (hn0:0<n) (hn1:n<n1) (hon:o+n<k) (hy:Lies w q ys) (hly:Nm.Limbs ys) (hq:∀a,q=some a→a.block<g):
  Calls Tryz.prog 332 #[.slice (some ⟨g,o,none⟩) n1 cap,.slice q n cap'] w fun e w'=>∃(c:Int) (os:List Int),e=.returned (.int .u64 c)∧(0≤c∧c≤1)∧
   Hid (PartInv g k (o+n+1) w zs (Nm.val zs+Nm.pw o*Nm.val ys) (o+n+1) c os w'):=by
 obtain ⟨b,off,rfl,hbw,HC⟩:=hy.at (by omega)
 have hbg:b<g:=hq _ rfl
 have I0:PartInv g k (o+n+1) w zs (Nm.val zs+Nm.pw o*Nm.val (ys.take 0)) (o+0) 0 zs w:=⟨⟨ho,hk,hl,by simp [Nm.val],Below.refl _ _,rfl⟩,fun _ _=>rfl,fun _ _=>rfl⟩
 have HM:Hid (ys.length=n):=hn
 have HY:Hid (Nm.Limbs ys):=hly
 clear hn hly hq ho hk hl hy
 go_enter Tryz.func332,Tryz.ntmps332
 go_wp2
 go_loopw [5,10] (fun c i wr=>∃(j:Nat) (cc:Int) (os:List Int),j≤n∧i=.int .i64 j∧c=.int .u64 cc∧(0≤cc∧cc≤1)∧PartInv g k (o+n+1) w zs (Nm.val zs+Nm.pw o*Nm.val (ys.take j)) (o+j) cc os wr) (fun _ i _=>n - (intOf i).toNat)
 case atStart=>exact ⟨0,0,zs,Nat.zero_le _,rfl,rfl,by omega,I0⟩
 case round=>
  clear I0
  obtain ⟨j,cc,os,hj,rfl,rfl,⟨hcc0,hcc1⟩,I⟩:=hrel
  by_cases hlt:j<n
  ·obtain ⟨x,hx,X⟩:∃x,wr.cell? ⟨b,off+j,none⟩=some (.int .u64 x)∧Hid (x=ys.getD j 0):=
    ⟨_,(I.1.2.2.2.2.1.cell (p:=⟨b,off+j,none⟩) hbg).trans (HC.out j (by have:=HM.out;omega)),rfl⟩
   obtain ⟨y,hyc,Y⟩:∃y,wr.cell? ⟨g,o+j,none⟩=some (.int .u64 y)∧Hid (y=os.getD (o+j) 0):=⟨_,I.1.1.cell (o+j) (by have:=I.1.2.1;omega),rfl⟩
   have hfr:=I.1.1.free (o+j)
   have hx0:0≤x∧x<18446744073709551616:=by have:=HY.out.at j;have:=X.out;omega
   have hy0:0≤y∧y<18446744073709551616:=by have:=I.1.2.2.1.at (o+j);have:=Y.out;omega
   obtain ⟨hx0,hx1⟩:=hx0
   obtain ⟨hy0,hy1⟩:=hy0
   have hjn1:(j:Int)<(n1:Int):=by omega
   obtain ⟨s,S⟩:∃s,Hid (s=(y+x+cc)%18446744073709551616):=⟨_,rfl⟩
   obtain ⟨c',C⟩:∃c',Hid (c'=(y+x+cc)/18446744073709551616):=⟨_,rfl⟩
   have hs0:0≤s∧s<18446744073709551616:=by have:=S.out;omega
   have hc0:0≤c'∧c'≤1:=by have:=C.out;omega
   have SE:Hid (s+18446744073709551616*c'=y+x+cc):=by show _=_;have:=S.out;have:=C.out;omega
   go_wp2_with (simp only [add64' y x cc s c' hy0 hx0 hcc0 hcc1 S.out C.out])
   go_roundw
   case rel=>
    have hst:=I.step (by omega) (by omega) (x:=x) (s:=s) (c':=c') hs0 (by rw [←Y.out];exact SE.out)
    refine ⟨j+1,c',os.set (o+j) s,by omega,by go_num,rfl,hc0,?_⟩
    have e:Nm.val zs+Nm.pw o*Nm.val (ys.take (j+1))=Nm.val zs+Nm.pw o*Nm.val (ys.take j)+Nm.pw (o+j)*x:=by
     rw [Nm.val_take_succ ys j (by have:=HM.out;omega),←X.out,Nm.pw_add,Int.mul_add,Int.mul_assoc]
     omega
    rw [e]
    exact hst
   case measure=>simp [intOf];omega
  ·have hjn:j=n:=by omega
   subst hjn
   rw [List.take_of_length_le (by have:=HM.out;omega)] at I
   obtain ⟨y,hyc,Y⟩:∃y,wr.cell? ⟨g,o+j,none⟩=some (.int .u64 y)∧Hid (y=os.getD (o+j) 0):=⟨_,I.1.1.cell (o+j) (by have:=I.1.2.1;omega),rfl⟩
   have hfr:=I.1.1.free (o+j)
   have hy0:0≤y∧y<18446744073709551616:=by have:=I.1.2.2.1.at (o+j);have:=Y.out;omega
   obtain ⟨hy0,hy1⟩:=hy0
   obtain ⟨s,S⟩:∃s,Hid (s=(y+0+cc)%18446744073709551616):=⟨_,rfl⟩
   obtain ⟨c',C⟩:∃c',Hid (c'=(y+0+cc)/18446744073709551616):=⟨_,rfl⟩
   have hs0:0≤s∧s<18446744073709551616:=by have:=S.out;omega
   have hc0:0≤c'∧c'≤1:=by have:=C.out;omega
   have hst:=I.step (by omega) (by omega) (x:=0) (s:=s) (c':=c') hs0 (by rw [←Y.out];have:=S.out;have:=C.out;omega)
   rw [Int.mul_zero,Int.add_zero] at hst
   have HS:=hid hst
   clear hst I
   go_wp2_with (simp only [add64' y 0 cc s c' hy0 (Int.le_refl 0) hcc0 hcc1 S.out C.out])
   go_ret
   exact ⟨c',os.set (o+j) s,rfl,hc0,HS.out⟩
end Go.Proofs.YtbdhlfklcdegdaaGreatDoor

namespace Go.Proofs.YtbdhlfklcdegdaaGreatDoor
open Go.RowKit Go.Deep
def TailTold (xs:List Int) (e:Ending):Prop:=∃s' k,e=.returned (.string s')∧Str s' (xs.take k)∧k≤xs.length∧(∀i,k≤i→i<xs.length→xs.getD i 0=48)
set_option maxRecDepth 100000 in
set_option maxHeartbeats 1000000 in
theorem rtrim_any (s:ByteArray) (xs:List Int) (w:World) (hs:Str s xs) (hn1:xs.length≤140737488355328):
  Calls Tryz.prog 174 #[.string s,.int .u8 48] w fun e w'=>TailTold xs e∧w'=w:=by
 have HS:=hid hs
 have HN:=hid hn1
 clear hs hn1
 go_enter Tryz.func174,Tryz.ntmps174
 go_wp2_with fail
 go_loop [0] (fun c=>∃s' m,c=.string s'∧Hid (Str s' (xs.take m)∧m≤xs.length∧s'.size=m∧(∀i,m≤i→i<xs.length→xs.getD i 0=48))) (fun c=>match c with | .string s'=>s'.size | _=>0)
 case atStart=>exact ⟨s,xs.length,rfl,by rw [List.take_length];exact HS.out,Nat.le_refl _,HS.out.size,fun i h1 h2=>by omega⟩
 case round=>
  obtain ⟨s',m,rfl,I⟩:=hrel
  have hsz:s'.size=m:=I.out.2.2.1
  have hmb:(m:Int)≤140737488355328:=by have:=HN.out;have:=I.out.2.1;omega
  by_cases h0:m=0
  ·subst h0
   have F:Hid (TailTold xs (.returned (.string s'))):=⟨s',0,rfl,I.out.1,Nat.zero_le _,I.out.2.2.2⟩
   clear I
   go_wp2_with fail
   go_ret
   exact ⟨F.out,rfl⟩
  ·obtain ⟨u,hu⟩:∃u,m=u+1:=⟨m - 1,by omega⟩
   have hmi:(0:Int)<(m:Int):=by omega
   have hmu:(m:Int) - 1=(u:Int):=by omega
   have hum:(u:Int)<(m:Int):=by omega
   obtain ⟨x,X⟩:∃x,Hid (xs.getD u 0=x):=⟨_,rfl⟩
   have hx:∀h:u<s'.size,((s'[u]'h).toNat:Int)=x:=fun h=>by
    rw [I.out.1.at u h,←X.out]
    simp [List.getD,show u<m by omega]
   have HU:=hid hu
   by_cases hd:x=48
   ·subst hd
    have F:Hid (Str (s'.extract 0 u) (xs.take u)∧u≤xs.length∧(s'.extract 0 u).size=u∧(∀i,u≤i→i<xs.length→xs.getD i 0=48)):=by
     have e:=I.out.1.extract 0 u
     rw [List.drop_zero,Nat.sub_zero,List.take_take,show min u m=u by omega] at e
     refine ⟨e,by have:=I.out.2.1;omega,by rw [e.size];have:=I.out.2.1;simp;omega,fun i h1 h2=>?_⟩
     by_cases c:i=u
     ·subst c;exact X.out
     ·exact I.out.2.2.2 i (by omega) h2
    have SZ:Hid ((s'.extract 0 u).size<s'.size):=by show _<_;rw [F.out.2.2.1,hsz];omega
    clear I hu h0
    go_wp2_with fail
    go_round
    case rel=>exact ⟨_,_,rfl,F.out⟩
    case measure=>exact SZ.out
   ·have hd2:(x == 48)=false:=by rw [beq_eq_false_iff_ne];exact hd
    have F:Hid (TailTold xs (.returned (.string s'))):=⟨s',m,rfl,I.out.1,I.out.2.1,I.out.2.2.2⟩
    clear I hu h0
    go_wp2_with fail
    go_ret
    exact ⟨F.out,rfl⟩
def TrimTold (xs:List Int) (e:Ending):Prop:=∃s',e=.returned (.string s')∧(s'.toList=[]↔∀i,i<xs.length→xs.getD i 0=48)
theorem str_nil {s:ByteArray} {xs:List Int} (h:Str s xs):s.toList=[]↔xs=[]:=by
 rw [ByteArray.toList_eq]
 constructor
 ·intro c
  rw [←h,c]
  rfl
 ·intro c
  unfold Str at h
  rw [c] at h
  simpa using h
theorem trim_told {xs:List Int} {k:Nat} (h2:k≤xs.length) (h3:∀i,k≤i→i<xs.length→xs.getD i 0=48) {e:Ending} (h:STold (xs.take k) e):TrimTold xs e:=by
 obtain ⟨s',j,rfl,⟨b1,b2,b3⟩,b4⟩:=h
 refine ⟨s',rfl,?_⟩
 rw [str_nil b1]
 have hl:(xs.take k).length=k:=by simp;omega
 have hg:∀i,i<k→(xs.take k).getD i 0=xs.getD i 0:=fun i hi=>by simp [List.getD,hi]
 rw [hl] at b2
 constructor
 ·intro c
  have hj:k≤j:=by
   have:=congrArg List.length c
   simp at this
   omega
  intro i hi
  by_cases c1:i<k
  ·rw [←hg i c1]
   exact b3 i (by omega)
  ·exact h3 i (by omega) hi
 ·intro c
  apply List.drop_of_length_le
  rw [hl]
  rcases Nat.lt_or_ge j k with c1 | c1
  ·exact absurd (by rw [hg j c1];exact c j (by omega)) (b4 (by rw [hl];exact c1))
  ·exact c1
set_option maxRecDepth 100000 in
set_option maxHeartbeats 1000000 in
theorem trim0_any (s:ByteArray) (xs:List Int) (w:World) (hs:Str s xs) (hn1:xs.length≤140737488355328):
  Calls Tryz.prog 299 #[.string s,.string ⟨#[48]⟩] w fun e w'=>TrimTold xs e∧Below w.heap.size w w':=by
 by_cases h:xs=[]
 ·have F:Hid (TrimTold xs (.returned (.string s))):=⟨s,rfl,by rw [str_nil hs,h];simp⟩
  have hs0:s=⟨#[]⟩:=hs.inj (by rw [h];rfl)
  subst hs0
  clear hs hn1 h
  go_enter Tryz.func299,Tryz.ntmps299
  go_wp2_with fail
  go_ret
  exact ⟨F.out,Below.refl _ _⟩
 ·have e1:s.toList≠[]:=fun c=>h ((str_nil hs).1 c)
  have e2:(s.toList == [])=false:=by rw [beq_eq_false_iff_ne];exact e1
  have e3:s.toList.isEmpty=false:=by rw [List.isEmpty_eq_false_iff];exact e1
  have R:=hid (rtrim_any s xs w.drew hs hn1)
  have L:Hid (∀(s1:ByteArray) (k:Nat),Str s1 (xs.take k)→Calls Tryz.prog 210 #[.string s1,.int .u8 48] w.drew fun e w'=>STold (xs.take k) e∧w'=w.drew):=fun s1 k h1=>strim1_any s1 (xs.take k) w.drew h1 (by simp;omega)
  clear hs hn1 h
  go_enter Tryz.func299,Tryz.ntmps299
  go_upto_region 4 with fail
  go_region_with (first | (go_at_call 174;refine R.out.mono ?_;rintro e w1 ⟨⟨s1,k,rfl,k1,k2,k3⟩,rfl⟩;have L1:=hid (L.out s1 k k1);have K2:=hid k2;have K3:=hid k3;clear k1 k2 k3) | (go_at_call 210;refine L1.out.mono ?_;rintro e w1 ⟨t1,rfl⟩;have F:=hid (trim_told K2.out K3.out t1);obtain ⟨s2,j2,rfl,-⟩:=t1))
  all_goals (go_wp2_with fail;go_ret;exact ⟨F.out,below_drewN (Below.refl _ _) 1⟩)
end Go.Proofs.YtbdhlfklcdegdaaGreatDoor
