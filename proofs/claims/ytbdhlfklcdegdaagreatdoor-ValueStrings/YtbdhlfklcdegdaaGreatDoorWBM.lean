/-
  Texts put together: FDigits, FExact, FExact2, FAll, FClosed, FTop.
-/
import Derived.Test.YtbdhlfklcdegdaaGreatDoorWAT
import Derived.Test.YtbdhlfklcdegdaaGreatDoorWAR
import Derived.Test.YtbdhlfklcdegdaaGreatDoorWBF
import Derived.Test.YtbdhlfklcdegdaaGreatDoorWAW
import Derived.Test.YtbdhlfklcdegdaaGreatDoorWAI
import Derived.Test.YtbdhlfklcdegdaaGreatDoorWAH
import Derived.Deep.RegionHeld3
import Derived.Test.YtbdhlfklcdegdaaGreatDoorWAL
namespace Go.Proofs.YtbdhlfklcdegdaaGreatDoor
open Go Go.RowKit Go.Deep
theorem fp10_pw {j:Nat} (h:j≤20000):(10:Int)^j<Nm.pw 4096:=by
 have h1:=Nat.pow_le_pow_left (show 10≤2^4 by decide) j
 rw [←Nat.pow_mul] at h1
 have e1:((10^j:Nat):Int)=10^j:=by simp
 have e2:((2^(4*j):Nat):Int)=2^(4*j):=by simp
 have h3:(2:Int)^(4*j)<2^262144:=by
  have h4:=Nm.two_mono (show 4*j+1≤262144 by omega)
  have h5:(2:Int)^(4*j+1)=2^(4*j)*2:=Int.pow_succ _ _
  have h6:(0:Int)<2^(4*j):=Int.pow_pos (by omega)
  generalize (2:Int)^262144=a at *
  omega
 rw [fpw_4096]
 omega
theorem f5_10 (n:Nat):(5:Int)^n≤10^n:=by
 have h1:=Nat.pow_le_pow_left (show 5≤10 by decide) n
 have e1:((10^n:Nat):Int)=10^n:=by simp
 have e2:((5^n:Nat):Int)=5^n:=by simp
 omega
theorem f2_10 (n:Nat):(2:Int)^n≤10^n:=by
 have h1:=Nat.pow_le_pow_left (show 2≤10 by decide) n
 have e1:((10^n:Nat):Int)=10^n:=by simp
 have e2:((2^n:Nat):Int)=2^n:=by simp
 omega
theorem fpow5_ok (k:Int) (n:Nat) (w:World) (hk:k=(n:Int)) (hn:n≤20000):
  Calls Tryz.prog 280 #[.int .i64 k] w fun e w'=>∃r os,e=.returned (.tuple #[.slice r (List.length os) (List.length os),.int .i64 0])∧Ans w.heap.size w' r os (5^n)∧Below w.heap.size w w':=by
 refine (pow5_gives k n w hk (by omega)).mono ?_
 rintro e w' ⟨⟨_,r,os,rfl,A⟩ | ⟨h,_⟩,hB⟩
 ·exact ⟨r,os,rfl,A,hB⟩
 ·exact absurd (Int.lt_of_le_of_lt (f5_10 n) (fp10_pw hn)) (Int.not_lt.2 h)
structure DigT (T:Int) (s:ByteArray) (xs:List Int):Prop where
 str:Str s xs
 digs:Digs xs
 val:dv xs=T
 head:xs.getD 0 0≠48
 ne:xs≠[]
 len:xs.length≤3000
theorem small_dig:∀d:Int,0≤d→d<10→(lettersOf false).getD d.toNat 0=d+48:=by
 intro d h0 h1
 obtain ⟨n,rfl⟩:=Int.eq_ofNat_of_zero_le h0
 have:n<10:=by omega
 match n,this with
 | 0,_=>rfl
 | 1,_=>rfl
 | 2,_=>rfl
 | 3,_=>rfl
 | 4,_=>rfl
 | 5,_=>rfl
 | 6,_=>rfl
 | 7,_=>rfl
 | 8,_=>rfl
 | 9,_=>rfl
theorem dig_lets {T:Int} {L K:Nat} {s:ByteArray} (h0:0<T) (hL:T<10^L) (hK:K≤2000) (hb:T<10^K) (hs:Str s (lets (lettersOf false) (Dn.strip (Dn.dg 10 L T)))):DigT T s (lets (lettersOf false) (Dn.strip (Dn.dg 10 L T))):=by
 have mem:∀d∈Dn.strip (Dn.dg 10 L T),0≤d∧d<10:=fun d hd=>Dn.dg_mem (by omega) L T d (Dn.strip_mem hd)
 have e:lets (lettersOf false) (Dn.strip (Dn.dg 10 L T))=(Dn.strip (Dn.dg 10 L T)).map (fun d=>d+48):=List.map_congr_left fun d hd=>small_dig d (mem d hd).1 (mem d hd).2
 have v:Dn.tv 10 0 (Dn.strip (Dn.dg 10 L T))=T:=by rw [Dn.tv_strip];exact Dn.tv_dg (by omega) L T (by omega) hL
 have ne:Dn.strip (Dn.dg 10 L T)≠[]:=by
  intro c
  rw [c] at v
  simp [Dn.tv] at v
  omega
 have dg:Digs (lets (lettersOf false) (Dn.strip (Dn.dg 10 L T))):=by
  rw [e]
  intro d hd
  obtain ⟨x,hx,rfl⟩:=List.mem_map.1 hd
  have:=mem x hx
  omega
 have dvT:dv (lets (lettersOf false) (Dn.strip (Dn.dg 10 L T)))=T:=by
  rw [e]
  unfold dv
  rw [List.map_map,show ((fun d:Int=>d - 48) ∘ fun d=>d+48)=id from funext fun d=>by simp,List.map_id]
  exact v
 have hd:(lets (lettersOf false) (Dn.strip (Dn.dg 10 L T))).getD 0 0≠48:=by
  rw [e]
  match hm:Dn.strip (Dn.dg 10 L T),ne with
  | x::ys,_=>
   have:=Dn.strip_head hm
   simp
   omega
 have nn:lets (lettersOf false) (Dn.strip (Dn.dg 10 L T))≠[]:=by rw [e];simpa using ne
 refine ⟨hs,dg,dvT,hd,nn,?_⟩
 obtain ⟨n,hn⟩:∃n,(lets (lettersOf false) (Dn.strip (Dn.dg 10 L T))).length=n+1:=⟨(lets (lettersOf false) (Dn.strip (Dn.dg 10 L T))).length - 1,by have:=List.length_pos_iff.2 nn;omega⟩
 have:=Fx.head_low dg hn hd
 rw [dvT] at this
 have:=Fx.p_lt (a:=n) (b:=K) (Int.lt_of_le_of_lt this hb)
 omega
set_option maxRecDepth 100000 in
theorem fdigits_any (p:Option Addr) (os:List Int) (B:Nat) (T:Int) (w:World) (K:Nat) (A:Ans B w p os T) (h0:0<T) (hK:K≤2000) (hb:T<10^K):
  Calls Tryz.prog 268 #[.slice p (List.length os) (List.length os)] w fun e w'=>∃s xs,e=.returned (.tuple #[.string s,.int .i64 0])∧DigT T s xs∧Below w.heap.size w w':=by
 have hp:T<Nm.pw 4096:=Int.lt_trans hb (fp10_pw (by omega))
 have IB:Hid (Calls Tryz.prog 277 #[.slice p (List.length os) (List.length os),.int .i64 10,.bool false] w fun e w'=>∃s xs,e=.returned (.tuple #[.string s,.int .i64 0])∧DigT T s xs∧Below w.heap.size w w'):=by
  refine (inBase_any p _ _ os 10 false w (A.argT hp) (by omega) (by omega)).mono ?_
  rintro e w' ⟨s,xs,E,rfl,hs,h,hB⟩
  have ts:=A.tsT hp
  have hv:Nm.val os=T:=A.2.2.2.1
  cases h with
  | big c=>omega
  | base _ c=>omega
  | zero c _ _=>
   have:=(Nm.tsize_zero_iff A.2.1).1 c
   omega
  | ok L c1 c2 c3 c4 c5=>
   rw [hv] at c5 hs
   exact ⟨s,_,rfl,dig_lets h0 c5 hK hb hs,hB⟩
 clear A h0 hb hp hK
 go_enter Tryz.func268,Tryz.ntmps268
 go_wp2_with fail
 refine IB.out.mono ?_
 rintro e w' ⟨s,xs,rfl,D,hB⟩
 have HD:=hid (And.intro D hB)
 clear D hB IB
 go_wp2_with fail
 go_ret2
 exact ⟨s,xs,rfl,HD.out.1,HD.out.2⟩
end Go.Proofs.YtbdhlfklcdegdaaGreatDoor

namespace Go.Proofs.YtbdhlfklcdegdaaGreatDoor
open Go Go.RowKit Go.Deep
theorem fprod_room {q:Int} {n:Nat} (q1:q<18446744073709551616):q*5^n<10^(20+n):=by
 have h1:=f5_10 n
 have h0:(0:Int)<5^n:=Int.pow_pos (by omega)
 have h2:q*5^n<18446744073709551616*5^n:=Int.mul_lt_mul_of_pos_right q1 h0
 rw [Int.pow_add]
 have e:(10:Int)^20=100000000000000000000:=by decide
 rw [e]
 omega
set_option maxRecDepth 100000 in
theorem behind_any (p:Option Addr) (os:List Int) (B:Nat) (q k:Int) (n:Nat) (w:World) (A:Ans B w p os q) (q0:0<q) (q1:q<18446744073709551616) (hk:k=(n:Int)) (hn:n≤1074):
  Calls Tryz.prog 267 #[.slice p (List.length os) (List.length os),.int .i64 k] w fun e w'=>∃s xs,e=.returned (.string s)∧DigT (q*5^n) s xs∧Below w.heap.size w w':=by
 have F:=hid (fpow5_ok k n w hk (by omega))
 have MU:Hid (∀(w1:World) (r:Option Addr) (zs:List Int),Below w.heap.size w w1→Ans w.heap.size w1 r zs (5^n)→Calls Tryz.prog 281 #[.slice p (List.length os) (List.length os),.slice r (List.length zs) (List.length zs)] w1 fun e w'=>∃r os,e=.returned (.tuple #[.slice r (List.length os) (List.length os),.int .i64 0])∧Ans w1.heap.size w' r os (q*5^n)∧Below w1.heap.size w1 w'):=by
  intro w1 r zs hB A1
  have A0:=A.below hB (Nat.le_refl _)
  have r0:q<Nm.pw 4096:=Int.lt_trans (show q<10^20 by rw [show (10:Int)^20=100000000000000000000 by decide];omega) (fp10_pw (by omega))
  have r1:(5:Int)^n<Nm.pw 4096:=Int.lt_of_le_of_lt (f5_10 n) (fp10_pw (by omega))
  have m:=mul_ok p r _ _ _ _ os zs w1 (A0.argT r0) (A1.argT r1) (A0.tsT r0) (A1.tsT r1) (by rw [A0.2.2.2.1,A1.2.2.2.1];exact Int.lt_trans (fprod_room q1) (fp10_pw (by omega)))
  rw [A0.2.2.2.1,A1.2.2.2.1] at m
  exact m
 have DG:Hid (∀(w1:World) (r:Option Addr) (zs:List Int) (B:Nat),Ans B w1 r zs (q*5^n)→Calls Tryz.prog 268 #[.slice r (List.length zs) (List.length zs)] w1 fun e w'=>∃s xs,e=.returned (.tuple #[.string s,.int .i64 0])∧DigT (q*5^n) s xs∧Below w1.heap.size w1 w'):=
  fun w1 r zs B A1=>fdigits_any r zs B _ w1 (20+n) A1 (Int.mul_pos q0 (Int.pow_pos (by omega))) (by omega) (fprod_room q1)
 clear A q0 q1 hk hn
 generalize q*5^n=T at *
 generalize (5:Int)^n=G at *
 go_enter Tryz.func267,Tryz.ntmps267
 go_wp2_with fail
 refine F.out.mono ?_
 rintro e w1 ⟨r,zs,rfl,A1,B1⟩
 have M1:=hid (MU.out w1 r zs B1 A1)
 have HB:=hid B1
 clear A1 B1 MU F
 go_wp2_with fail
 refine M1.out.mono ?_
 rintro e w2 ⟨r2,z2,rfl,A2,B2⟩
 have D2:=hid (DG.out w2 r2 z2 _ A2)
 have HB2:=hid (HB.out.trans (B2.mono HB.out.size))
 clear A2 B2 M1 DG HB
 go_wp2_with fail
 refine D2.out.mono ?_
 rintro e w3 ⟨s,xs,rfl,D3,B3⟩
 have K:=hid (And.intro D3 (HB2.out.trans (B3.mono HB2.out.size)))
 clear D3 B3 D2 HB2
 go_wp2_with fail
 go_ret
 exact ⟨s,xs,rfl,K.out.1,K.out.2⟩
theorem ex_odd {m e q:Int} {t n:Nat} {xs:List Int} {s:ByteArray} (hm:m=2^t*q) (q0:0<q) (hq:q%2=1) (he:-1074≤e) (hn:(n:Int)=-(e+t)) (D:DigT (q*5^n) s xs):Fx.Ex m e xs (e+t):=by
 have hm0:0<m:=by rw [hm];exact Int.mul_pos (Int.pow_pos (by omega)) q0
 obtain ⟨L,hL⟩:∃L,xs.length=L+1:=⟨xs.length - 1,by have:=List.length_pos_iff.2 D.ne;omega⟩
 have odd:dv xs%2=1:=by
  rw [D.val]
  have:∀k:Nat,(5:Int)^k%2=1:=by
   intro k
   induction k with
   | zero=>rfl
   | succ k ih=>rw [Int.pow_succ];omega
  rw [Int.mul_emod,hq,this n]
  rfl
 refine ⟨by omega,fun c=>by omega,fun _=>⟨D.digs,D.ne,D.head,?_⟩,fun _=>?_⟩
 ·have:=Fx.dv_mod D.digs hL
  rw [hL,Nat.add_sub_cancel]
  omega
 ·rw [D.val]
  obtain ⟨a,ha⟩:∃a:Nat,(e+(t:Int)+1074).toNat=a:=⟨_,rfl⟩
  obtain ⟨b,hb⟩:∃b:Nat,(e+1074).toNat=b:=⟨_,rfl⟩
  have e1:a=t+b:=by omega
  have e2:1074=n+a:=by omega
  rw [ha,hb,hm,Fx.F5,e2,Int.pow_add,e1,show (10:Int)=2*5 from rfl,Int.mul_pow,Int.pow_add 2]
  generalize (5:Int)^n=x1
  generalize (5:Int)^(t+b)=x2
  generalize (2:Int)^t=x3
  generalize (2:Int)^b=x4
  ac_rfl
theorem ex_whole {m e q:Int} {t n k:Nat} {xs:List Int} {s:ByteArray} (hm:m=2^t*q) (q0:0<q) (he:-1074≤e) (hn:(n:Int)=e+t) (D:DigT (q*2^n) s xs) (hk:k≤xs.length) (h0:∀i,k≤i→i<xs.length→xs.getD i 0=48) (hl:0<k→xs.getD (k - 1) 0≠48):Fx.Ex m e (xs.take k) (xs.length - k):=by
 have hm0:0<m:=by rw [hm];exact Int.mul_pos (Int.pow_pos (by omega)) q0
 have:=(Fx.ex_of (m:=m) (e:=e) (F:=0) hm0 D.digs D.head hk h0 hl (by omega) (by
  rw [D.val]
  obtain ⟨b,hb⟩:∃b:Nat,(e+1074).toNat=b:=⟨_,rfl⟩
  have e1:n+1074=t+b:=by omega
  have e2:(2:Int)^n*2^1074=2^t*2^b:=by rw [←Int.pow_add,←Int.pow_add,e1]
  rw [hb,hm,Fx.F5,show ((0:Int)+1074).toNat=1074 from rfl]
  generalize 1074=z at *
  rw [show (10:Int)=2*5 from rfl,Int.mul_pow]
  generalize (5:Int)^z=x1
  generalize (2:Int)^z=x2 at *
  rw [show q*2^n*(x2*x1)=q*(2^n*x2)*x1 by ac_rfl,e2]
  ac_rfl)).1
 rw [Int.zero_add] at this
 exact this
end Go.Proofs.YtbdhlfklcdegdaaGreatDoor

namespace Go.Proofs.YtbdhlfklcdegdaaGreatDoor
open Go Go.RowKit Go.Deep
def ExTold (d:Int) (w:World) (e:Ending) (w':World):Prop:=
 ∃s,e=.returned (.tuple #[.string s,.int .i64 (Fx.ed (Ie.dm d) (Ie.de d))])∧Str s (Fx.xd (Ie.dm d) (Ie.de d))∧Below w.heap.size w w'
theorem ExTold.of {d:Int} {w w':World} {s:ByteArray} {xs:List Int} {E:Int} (hm:0≤Ie.dm d) (h:Fx.Ex (Ie.dm d) (Ie.de d) xs E) (hs:Str s xs) (hB:Below w.heap.size w w'):ExTold d w (.returned (.tuple #[.string s,.int .i64 E])) w':=by
 obtain ⟨e1,e2⟩:=h.is hm
 exact ⟨s,by rw [e2],by rw [←e1];exact hs,hB⟩
set_option maxRecDepth 100000 in
set_option maxHeartbeats 4000000 in
theorem exact_any (d:Int) (w:World) (hT:Tab w) (h0:0≤d) (h1:d<18446744073709551616) (hf:Ie.cls d<3):
  Calls Tryz.prog 238 #[.int .u64 d] w fun e w'=>ExTold d w e w':=by
 have D:=hid (decode_any d w h0 h1)
 obtain ⟨m0,m1,e0,e1,mz⟩:=Ie.fdec d hf
 have FIN:Hid (∀(w':World) (s:ByteArray) (xs:List Int) (E:Int),Fx.Ex (Ie.dm d) (Ie.de d) xs E→Str s xs→Below w.heap.size w w'→ExTold d w (.returned (.tuple #[.string s,.int .i64 E])) w'):=fun w' s xs E h hs hB=>.of m0 h hs hB
 have HT:=hid hT
 simp only [partsOf] at D
 generalize decide (9223372036854775808≤d)=neg at *
 generalize Ie.dm d=m at *
 generalize Ie.de d=x at *
 generalize Ie.cls d=c at *
 clear hT h0 h1 hf
 by_cases hc:c=0
 ·subst hc
  have hm:=mz.1 rfl
  subst hm
  have F0:Hid (∀(w':World),Below w.heap.size w w'→ExTold d w (.returned (.tuple #[.string ⟨#[48]⟩,.int .i64 0])) w'):=fun w' hB=>FIN.out w' _ [48] 0 ⟨by omega,fun _=>⟨rfl,rfl⟩,fun h=>by omega,fun h=>by omega⟩ rfl hB
  clear FIN mz HT
  go_enter Tryz.func238,Tryz.ntmps238
  go_wp2_with fail
  refine D.out.mono ?_
  rintro e w1 ⟨rfl,hB⟩
  have K:=hid (F0.out _ (hB.trans ((alloc_b w1 (.cells #[.bool neg,.int .i64 0,.int .u64 0,.int .i64 x] 92)).mono hB.size)))
  clear hB F0 D
  go_wp2_with fail
  go_ret2
  exact K.out
 ·have hc':(c == 0)=false:=by rw [beq_eq_false_iff_ne];exact hc
  have hm:0<m:=by rcases (show m=0∨0<m by omega) with h | h;exact absurd (mz.2 h) hc;exact h
  have TZ:Hid (∀wx:World,Tab wx→Calls Tryz.prog 57 #[.int .u64 m] wx fun e w'=>∃(t:Nat) (q:Int),e=.returned (.int .i64 t)∧t≤63∧Hid (m=2^t*q∧0<q∧q%2=1)∧m/2^t=q∧0≤q∧q<9007199254740992∧w'=wx):=by
   intro wx hT
   refine (tz64 m wx hm (by omega) hT).mono ?_
   rintro e w' ⟨t,q,rfl,ht,hq,rfl⟩
   have hq':m=2^t*(2*q+1):=hq
   have p2:(0:Int)<2^t:=Int.pow_pos (by omega)
   have qp:0<2*q+1:=by
    rcases (show 2*q+1≤0∨0<2*q+1 by omega) with h | h
    ·have:=Int.mul_nonpos_of_nonneg_of_nonpos (Int.le_of_lt p2) h
     omega
    ·exact h
   have dv':m/2^t=2*q+1:=by rw [hq'];exact Int.mul_ediv_cancel_left _ (by omega)
   refine ⟨t,2*q+1,rfl,ht,⟨hq',qp,by omega⟩,dv',by omega,?_,rfl⟩
   have:(1:Int)*(2*q+1)≤2^t*(2*q+1):=Int.mul_le_mul_of_nonneg_right p2 (by omega)
   omega
  have XB:=hid (And.intro e0 e1)
  clear mz hc hm
  go_enter Tryz.func238,Tryz.ntmps238
  go_wp2_with fail
  refine D.out.mono ?_
  rintro e w1 ⟨rfl,hB1⟩
  have HB1:=hid hB1
  clear hB1 D
  go_upto_region 4 with fail
  have hb:=HB1.out.trans ((alloc_b w1 (.cells #[.bool neg,.int .i64 c,.int .u64 m,.int .i64 x] 92)).mono HB1.out.size)
  have P:=Row4.new w1 92 (.bool neg) (.int .i64 c) (.int .u64 m) (.int .i64 x)
  obtain ⟨SS,KS,CS,BS,MS⟩:=state (fun w'=>(w'.cell? ⟨w1.heap.size,2,none⟩=some (.int .u64 m)∧w'.cell? ⟨w1.heap.size,3,none⟩=some (.int .i64 x))∧Tab w') w (((Stays.cell _ _).and (Stays.cell _ _)).and Stays.tab)
  have S0:=hid (MS.out _ ⟨⟨P.cells.1.2.2.1,P.cells.1.2.2.2⟩,HT.out.below hb⟩ hb)
  clear P hb HT HB1 MS
  generalize w1.alloc (.cells #[.bool neg,.int .i64 c,.int .u64 m,.int .i64 x] 92)=wA at *
  generalize w1.heap.size=b at *
  have CC:Hid (∀wx:World,SS wx→(wx.cell? ⟨b,2,none⟩=some (.int .u64 m)∧wx.cell? ⟨b,3,none⟩=some (.int .i64 x))):=fun wx h=>(CS.out wx h).1
  have T0:=hid (TZ.out _ (CS.out _ S0.out).2)
  obtain ⟨p2,p3⟩:=CC.out _ S0.out
  clear CS TZ
  go_wp2_with fail
  refine T0.out.mono ?_
  rintro e wz ⟨t,q,rfl,ht,HQ,dq,q0,q1,hz⟩
  replace hz:=hz.symm
  subst hz
  have FU:=hid (fun (wx:World)=>fromUint_any q wx q0 (by omega))
  obtain ⟨y,hy⟩:∃y,x+(t:Int)=y:=⟨_,rfl⟩
  have WK:IntKind.i64.wrap (x+(t:Int))=y:=by rw [IntKind.wrap_i64];omega
  have WN:IntKind.i64.wrap y=y:=by rw [IntKind.wrap_i64];omega
  clear T0
  have S1:=hid (KS.out _ _ S0.out (drew_nil _))
  go_upto_region 5 with fail
  go_region_held3 (fun w'=>w'.cell? ⟨b,2,none⟩=some (.int .u64 m)∧w'.cell? ⟨b,3,none⟩=some (.int .i64 x)) (first | (with_reducible exact CC.out _ S2.out) | (with_reducible exact CC.out _ S1.out)) (first
   | (go_at_call 254;refine (FU.out _).mono ?_;rintro e w2 ⟨p,os,rfl,A,hB⟩;have S2:=hid (KS.out _ _ S1.out hB);have A2:=hid A;clear hB A))
  all_goals
   by_cases hy0:y<0
   ·obtain ⟨n,hn⟩:∃n:Nat,-y=(n:Int):=⟨(-y).toNat,by omega⟩
    have hn0:(n:Int)≤1074:=by omega
    have BH:=hid (behind_any p os _ q (n:Int) n w2 A2.out HQ.out.2.1 (by omega) rfl (by omega))
    have KK:Hid (∀(w3:World) (s:ByteArray) (xs:List Int),DigT (q*5^n) s xs→Below w2.heap.size w2 w3→ExTold d w (.returned (.tuple #[.string s,.int .i64 y])) w3):=by
     intro w3 s xs D hB
     refine FIN.out w3 s xs y ?_ D.str ((BS.out _ S2.out).trans (hB.mono (BS.out _ S2.out).size))
     rw [←hy]
     exact ex_odd HQ.out.1 HQ.out.2.1 HQ.out.2.2 XB.out.1 (by omega) D
    clear FIN A2 FU S0 S1 CC HQ dq hy WK p2 p3
    go_wp2_with fail
    refine BH.out.mono ?_
    rintro e w3 ⟨s,xs,rfl,D,hB⟩
    have K:=hid (KK.out w3 s xs D hB)
    clear D hB KK BH
    go_wp2_with fail
    go_ret2
    exact K.out
   ·obtain ⟨n,hn⟩:∃n:Nat,y=(n:Int):=⟨y.toNat,by omega⟩
    have hn0:(n:Int)≤1034:=by omega
    have room:q*2^n<10^(20+n):=by
     have h1:=f2_10 n
     have h0:(0:Int)<2^n:=Int.pow_pos (by omega)
     have h2:q*2^n<9007199254740992*2^n:=Int.mul_lt_mul_of_pos_right q1 h0
     rw [Int.pow_add]
     have e:(10:Int)^20=100000000000000000000:=by decide
     rw [e]
     omega
    have r0:q<Nm.pw 4096:=Int.lt_trans (show q<10^20 by rw [show (10:Int)^20=100000000000000000000 by decide];omega) (fp10_pw (by omega))
    have SH:=fshl_any p _ _ os (n:Int) n w2 (A2.out.argT r0) (A2.out.tsT r0) rfl (by rw [A2.out.2.2.2.1];exact Int.lt_trans room (fp10_pw (by omega)))
    rw [A2.out.2.2.2.1] at SH
    have HS:=hid SH
    have DG:Hid (∀(w1:World) (r:Option Addr) (zs:List Int) (B:Nat),Ans B w1 r zs (q*2^n)→Calls Tryz.prog 268 #[.slice r (List.length zs) (List.length zs)] w1 fun e w'=>∃s xs,e=.returned (.tuple #[.string s,.int .i64 0])∧DigT (q*2^n) s xs∧Below w1.heap.size w1 w'):=
     fun w1 r zs B A1=>fdigits_any r zs B _ w1 (20+n) A1 (Int.mul_pos HQ.out.2.1 (Int.pow_pos (by omega))) (by omega) room
    have KK:Hid (∀(w3:World) (s s':ByteArray) (xs:List Int) (k:Nat),DigT (q*2^n) s xs→Str s' (xs.take k)→k≤xs.length→(∀i,k≤i→i<xs.length→xs.getD i 0=48)→(0<k→xs.getD (k - 1) 0≠48)→Below w.heap.size w w3→ExTold d w (.returned (.tuple #[.string s',.int .i64 ((s.size:Int) - (s'.size:Int))])) w3):=by
     intro w3 s s' xs k D hs hk g0 gl hB
     have z1:s.size=xs.length:=D.str.size
     have z2:s'.size=k:=by rw [hs.size,List.length_take];omega
     rw [z1,z2]
     exact FIN.out w3 s' (xs.take k) _ (ex_whole HQ.out.1 HQ.out.2.1 XB.out.1 (by omega) D hk g0 gl) hs hB
    have hy1:¬(n:Int)<0:=by omega
    subst hn
    clear FIN A2 FU S0 S1 CC HQ dq hy WK p2 p3 SH room r0 hy0
    generalize q*2^n=T at *
    go_wp2_with fail
    refine HS.out.mono ?_
    rintro e w3 ⟨r,zs,rfl,A3,B3⟩
    have D3:=hid (DG.out w3 r zs _ A3)
    have HB3:=hid ((BS.out _ S2.out).trans (B3.mono (BS.out _ S2.out).size))
    clear A3 B3 HS DG
    go_wp2_with fail
    refine D3.out.mono ?_
    rintro e w4 ⟨s,xs,rfl,D4,B4⟩
    have HB4:=hid (HB3.out.trans (B4.mono HB3.out.size))
    have HD:=hid D4
    have TR:=hid (frtrim0_any s xs w4 D4.str (by have:=D4.len;omega))
    have sz1:(s.size:Int)≤3000:=by have:=D4.str.size;have:=D4.len;omega
    clear D4 B4 D3 HB3
    go_wp2_with fail
    refine TR.out.mono ?_
    rintro e w5 ⟨⟨s',k,rfl,g1,g2,g3,g4⟩,hz⟩
    have sz2:(s'.size:Int)≤(s.size:Int):=by rw [g1.size,HD.out.str.size,List.length_take];omega
    have K:=hid (KK.out w5 s s' xs k HD.out g1 g2 g3 g4 (by rw [hz];exact HB4.out))
    clear g1 g2 g3 g4 hz TR KK HD HB4
    go_wp2_with fail
    go_ret2
    exact K.out
end Go.Proofs.YtbdhlfklcdegdaaGreatDoor

namespace Go.Proofs.YtbdhlfklcdegdaaGreatDoor
open Go Go.RowKit Go.Deep
namespace Fx
noncomputable def X (d:Int):List Int:=xd (Ie.dm d) (Ie.de d)
noncomputable def P (d:Int):Int:=ed (Ie.dm d) (Ie.de d)
noncomputable def aS (d:Int):List Int:=if Ie.fnt d=true then X d else []
theorem X_ex {d:Int} (h:Ie.fnt d=true):Ex (Ie.dm d) (Ie.de d) (X d) (P d):=ex_is (Ie.fdec d (of_decide_eq_true h)).1
theorem X_digs {d:Int} (h:Ie.fnt d=true):Digs (X d)∧X d≠[]:=(X_ex h).digs (Ie.fdec d (of_decide_eq_true h)).1
theorem X_zero {d:Int} (h:Ie.fnt d=true) (hz:Ie.dm d=0):X d=[48]∧P d=0:=(X_ex h).zero hz
theorem X_room {d:Int} (h:Ie.fnt d=true):-323≤(X d).length+P d∧(X d).length+P d≤309∧-1074≤P d∧(X d).length≤1383∧1≤(X d).length:=by
 obtain ⟨m0,m1,e0,e1,_⟩:=Ie.fdec d (of_decide_eq_true h)
 have lo:=(X_ex h).lo
 have l1:=List.length_pos_iff.2 (X_digs h).2
 rcases (show Ie.dm d=0∨0<Ie.dm d by omega) with c | c
 ·obtain ⟨a,b⟩:=X_zero h c
  rw [a,b] at *
  simp
 ·have r:=(X_ex h).room c m1 e1
  omega
end Fx
end Go.Proofs.YtbdhlfklcdegdaaGreatDoor

namespace Go.Proofs.YtbdhlfklcdegdaaGreatDoor
open Go Go.RowKit Go.Deep
namespace Fx
end Fx
end Go.Proofs.YtbdhlfklcdegdaaGreatDoor

namespace Go.Proofs.YtbdhlfklcdegdaaGreatDoor
open Go Go.RowKit Go.Deep
namespace Fx
def top (d:Int) (n:Nat):Int:=Ie.dm d*10^n*2^(Ie.de d).toNat
def dn (d:Int):Nat:=(-(Ie.de d)).toNat
end Fx
end Go.Proofs.YtbdhlfklcdegdaaGreatDoor
