/-
  Texts put together: QPow, QPowG, QPow5.
-/
import Derived.Test.YtbdhlfklcdegdaaGreatDoorWAC
import Derived.Test.YtbdhlfklcdegdaaGreatDoorWAH
import Derived.Test.YtbdhlfklcdegdaaGreatDoorWAM
import Derived.Test.YtbdhlfklcdegdaaGreatDoorWAQ
namespace Go.Proofs.YtbdhlfklcdegdaaGreatDoor
open Go.RowKit Go.Deep
theorem len_any (x:Int) (l:Nat) (w:World) (h0:0≤x) (h1:x<18446744073709551616) (hl:Lib.bitLen x.toNat=l):
  Calls Tryz.prog 318 #[.int .u64 x] w fun e w'=>e=.returned (.int .i64 (l:Int))∧w'=w:=by
 have L:=len64 x w h0 h1
 rw [hl] at L
 have HL:=hid L
 clear L hl
 go_enter Tryz.func318,Tryz.ntmps318
 go_wp2_with fail
 refine HL.out.mono ?_
 rintro e w' ⟨rfl,rfl⟩
 go_wp2_with fail
 go_ret
 exact ⟨rfl,rfl⟩
theorem one_bit_i64 (x:Nat) (h1:x<9223372036854775808):bits .and .i64 (x:Int) 1=((x%2:Nat):Int):=by
 have h:x &&& 1=x%2:=Nat.and_two_pow_sub_one_eq_mod x 1
 have e1:(BitVec.ofInt 64 (x:Int)).toNat=x:=by
  rw [BitVec.ofInt_natCast,BitVec.toNat_ofNat];exact Nat.mod_eq_of_lt (by omega)
 have e2:(BitVec.ofInt 64 (1:Int)).toNat=1:=by decide
 show IntKind.i64.wrap ((BitVec.ofInt 64 (x:Int) &&& BitVec.ofInt 64 (1:Int)).toNat:Int)=_
 rw [BitVec.toNat_and,e1,e2,h]
 have:x%2<2:=Nat.mod_lt _ (by omega)
 rw [IntKind.wrap_i64]
 omega
theorem exp_len (n:Nat) (h1:1≤n) (h2:n<18446744073709551616):∃j,Lib.bitLen n=j+1∧n/2^j=1∧j≤63:=by
 have hb:=Lib.bitLenAux_bounds 64 n (by simpa using h2) (by omega)
 rw [show Lib.bitLenAux 64 n=Lib.bitLen n from rfl] at hb
 have hs:=bitLen_small n h2
 obtain ⟨j,hj⟩:∃j,Lib.bitLen n=j+1:=⟨Lib.bitLen n - 1,by omega⟩
 rw [hj,Nat.add_sub_cancel] at hb
 refine ⟨j,hj,?_,by omega⟩
 have p1:0<2^j:=Nat.pow_pos (by omega)
 rw [Nat.pow_succ] at hb
 exact Nat.div_eq_of_lt_le (by omega) (by omega)
set_option maxRecDepth 100000 in
set_option maxHeartbeats 2000000 in
theorem power_any (p:Option Addr) (m cap:Nat) (zs:List Int) (A:Int) (n:Nat) (w:World) (ha:Arg w p m cap zs) (tz:Nm.tsize zs≤4096) (hA:Nm.val zs=A) (hA1:1≤A) (h1:1≤n) (h2:n<4611686018427387904):
  Calls Tryz.prog 308 #[.slice p m cap,.int .i64 (n:Int)] w fun e w'=>Gives (A^n) w e w':=by
 obtain ⟨j0,hj0,hj1,hj63⟩:=exp_len n h1 (by omega)
 have TR:=hid (trim_any p m cap zs w ha)
 have HA:=hid ha
 have HAs:Hid (A<Nm.pw 4096):=by show _<_;rw [←hA];exact (Nm.tsize_le_iff ha.2.2.2.2 4096).1 tz
 have HVA:=hid hA
 have HT:=hid tz
 have HA1:=hid hA1
 have HJ1:=hid hj1
 have hn0:(0:Int)≤(n:Int):=by omega
 have hn1:(n:Int)<4611686018427387904:=by omega
 have HL:=hid hj0
 obtain ⟨l,hl⟩:∃l,l=j0+1:=⟨_,rfl⟩
 have rl:(l:Int) - 2=(j0:Int) - 1:=by omega
 have HLL:=hid hl
 have hl64:(l:Int)≤64:=by omega
 have hl1:(1:Int)≤(l:Int):=by omega
 clear ha hA tz hA1 hj0 hj1 hl h1 h2
 go_enter Tryz.func308,Tryz.ntmps308
 go_wp2_with fail
 refine TR.out.mono ?_
 rintro e w1 ⟨r,os,rfl,-,A1,hb1⟩
 rw [HVA.out] at A1
 have HB1:=hid A1
 have D1:=hid hb1
 clear A1 hb1 TR
 go_wp2_with fail
 refine (len_any (n:Int) l _ hn0 (by omega) (by rw [Int.toNat_natCast,HL.out,HLL.out])).mono ?_
 rintro e w2 ⟨rfl,rfl⟩
 go_wp2_with fail
 go_loopw [6,7] (fun o i wr=>∃(j:Nat) (r:Option Addr) (os:List Int),j≤j0∧i=.int .i64 ((j:Int) - 1)∧o=.slice r (List.length os) (List.length os)∧Hid (Ans w.heap.size wr r os (A^(n/2^j)))∧Hid (A^(n/2^j)<Nm.pw 4096)∧Hid (Below w.heap.size w wr)) (fun _ i _=>(intOf i+1).toNat)
 case atStart=>exact ⟨j0,r,os,Nat.le_refl _,by first | rfl | rw [rl],rfl,by rw [HJ1.out,Int.pow_succ,Int.pow_zero,Int.one_mul];exact HB1.out,by rw [HJ1.out,Int.pow_succ,Int.pow_zero,Int.one_mul];exact HAs.out,D1.out⟩
 case round=>
  clear HB1 D1 rl
  obtain ⟨j,r,os,hj,rfl,rfl,HO,HS,D⟩:=hrel
  by_cases hj0':j=0
  ·subst hj0'
   have F:Hid (Gives (A^n) w (.returned (.tuple #[.slice r (List.length os) (List.length os),.int .i64 0])) wr):=by
    have h1:=HO.out
    have h2:=HS.out
    rw [Nat.pow_zero,Nat.div_one] at h1 h2
    exact ⟨.inl ⟨h2,r,os,rfl,h1⟩,D.out⟩
   go_wp2_with fail
   go_ret2
   exact F.out
  ·obtain ⟨t,rfl⟩:∃t,j=t+1:=⟨j - 1,by omega⟩
   have MU:=hid (mul_gives r r _ _ _ _ os os (A^(n/2^(t+1))*A^(n/2^(t+1))) wr (HO.out.argT HS.out) (HO.out.argT HS.out) (HO.out.tsT HS.out) (HO.out.tsT HS.out) (by rw [HO.out.2.2.2.1]))
   go_wp2_with fail
   refine MU.out.mono ?_
   rintro e w3 ⟨h | h,hb3⟩
   ·obtain ⟨hs3,s,ss,rfl,A3⟩:=h
    have HB3:=hid (A3.upT (B':=w.heap.size) D.out.size)
    have HS3:=hid hs3
    have D3:=hid (chain D.out hb3 (Nat.le_refl _))
    obtain ⟨x,hx⟩:∃x,n/2^t=x:=⟨_,rfl⟩
    have hx63:x<9223372036854775808:=by have:n/2^t≤n:=Nat.div_le_self _ _;omega
    have r1:(n:Int)/2^t=(x:Int):=by rw [←hx];simp
    have r2:=one_bit_i64 x hx63
    have HX:=hid hx
    clear hs3 A3 hb3 hx
    rcases (show x%2=0∨x%2=1 by omega) with hb | hb
    ·rw [hb] at r2
     have HE:=hid (Pn.square A n t (by rw [HX.out];exact hb))
     rw [HE.out] at HB3 HS3
     clear hb
     go_wp2_with fail
     go_roundw
     case rel=>exact ⟨t,s,ss,by omega,by go_num,rfl,HB3,HS3,D3⟩
     case measure=>simp [intOf]
    ·rw [hb] at r2
     have HE:=hid (Pn.square_odd A n t (by rw [HX.out];exact hb))
     have HA3:=hid (HA.out.below D3.out (Nat.le_refl _))
     have MU2:=hid (mul_gives s p _ _ m cap ss zs (A^(n/2^t)) w3 (HB3.out.argT HS3.out) HA3.out (HB3.out.tsT HS3.out) HT.out (by rw [HB3.out.2.2.2.1,HVA.out];exact HE.out))
     clear hb
     go_wp2_with fail
     refine MU2.out.mono ?_
     rintro e w4 ⟨h | h,hb4⟩
     ·obtain ⟨hs4,s4,ss4,rfl,A4⟩:=h
      have HB4:=hid (A4.upT (B':=w.heap.size) D3.out.size)
      have HS4:=hid hs4
      have D4:=hid (chain D3.out hb4 (Nat.le_refl _))
      clear hs4 A4 hb4
      go_wp2_with fail
      go_roundw
      case rel=>exact ⟨t,s4,ss4,by omega,by go_num,rfl,HB4,HS4,D4⟩
      case measure=>simp [intOf]
     ·obtain ⟨hs4,rfl⟩:=h
      have F:Hid (Gives (A^n) w (.returned (.tuple #[.slice none 0 0,.int .i64 2])) w4):=
       ⟨.inr ⟨Int.le_trans hs4 (Pn.part_le HA1.out n t),rfl⟩,chain D3.out hb4 (Nat.le_refl _)⟩
      clear hs4 hb4
      go_wp2_with fail
      go_ret2
      exact F.out
   ·obtain ⟨hs3,rfl⟩:=h
    have F:Hid (Gives (A^n) w (.returned (.tuple #[.slice none 0 0,.int .i64 2])) w3):=
     ⟨.inr ⟨Int.le_trans hs3 (Pn.square_le HA1.out n t),rfl⟩,chain D.out hb3 (Nat.le_refl _)⟩
    clear hs3 hb3
    go_wp2_with fail
    go_ret2
    exact F.out
end Go.Proofs.YtbdhlfklcdegdaaGreatDoor

namespace Go.Proofs.YtbdhlfklcdegdaaGreatDoor
open Go.RowKit Go.Deep
theorem one_lt_pw:(1:Int)<Nm.pw 4096:=by
 have h:=Nm.pw_mono (show 1≤4096 by omega)
 have e:Nm.pw 1=18446744073709551616:=by simp [Nm.pw]
 rw [e] at h
 generalize Nm.pw 4096=x at *
 omega
set_option maxRecDepth 100000 in
set_option maxHeartbeats 1000000 in
theorem pow_gives (p:Option Addr) (m cap:Nat) (zs:List Int) (A k:Int) (n:Nat) (w:World) (ha:Arg w p m cap zs) (tz:Nm.tsize zs≤4096) (hA:Nm.val zs=A) (hk:k=(n:Int)) (hk1:k≤9223372036854775807):
  Calls Tryz.prog 296 #[.slice p m cap,.int .i64 k] w fun e w'=>Gives (A^n) w e w':=by
 obtain ⟨L,l1,l2,l3,_⟩:=blen_is zs ha.2.2.2.2
 obtain ⟨N,HN⟩:∃N,Hid (Nm.tsize zs=N):=⟨_,rfl⟩
 have hN:(N:Int)≤4096:=by have:=HN.out;omega
 have HB:=hid (bitLen_isT L p m cap zs w ha l1)
 have HL:=hid (limbs_isT p m cap zs N w ha HN.out)
 have hL:(L:Int)≤262144:=by omega
 have A0:=(Nm.val_bd zs ha.2.2.2.2).1
 rw [hA] at A0 l2
 have HAs:Hid (A<Nm.pw 4096):=by show _<_;rw [←hA];exact (Nm.tsize_le_iff ha.2.2.2.2 4096).1 tz
 have HA:=hid ha
 have HT:=hid tz
 have HVA:=hid hA
 have HL2:=hid l2
 clear ha tz l1 l2 l3 hA
 subst hk
 by_cases h0:n=0
 ·subst h0
  have F:=hid (fromUint_any 1 w (by omega) (by omega))
  go_enter Tryz.func296,Tryz.ntmps296
  go_wp2_with fail
  refine HB.out.mono ?_
  rintro e w' ⟨rfl,rfl⟩
  go_wp2_with fail
  refine HL.out.mono ?_
  rintro e w' ⟨rfl,rfl⟩
  go_wp2_with fail
  refine F.out.mono ?_
  rintro e w1 ⟨r,os,rfl,A1,hb1⟩
  have G:Hid (Gives (A^0) w' (.returned (.tuple #[.slice r (List.length os) (List.length os),.int .i64 0])) w1):=
   ⟨.inl ⟨by rw [Int.pow_zero];exact one_lt_pw,r,os,rfl,by rw [Int.pow_zero];exact A1⟩,hb1⟩
  clear A1 hb1
  go_wp2_with fail
  go_ret2
  exact G.out
 have hn0:((n:Int) == 0)=false:=by rw [beq_eq_false_iff_ne];omega
 by_cases hL2:L<2
 ·have hL2':(L:Int)<2:=by omega
  have E:Hid (A^n=A):=by
   have h:=HL2.out.1
   have hA2:A<2:=by
    have:=Nm.two_mono (show L≤1 by omega)
    omega
   show _=_
   obtain ⟨n',rfl⟩:∃n',n=n'+1:=⟨n - 1,by omega⟩
   rcases (show A=0∨A=1 by omega) with rfl | rfl
   ·rw [Int.pow_succ,Int.mul_zero]
   ·rw [Int.one_pow]
  have TR:=hid (trim_any p m cap zs w HA.out)
  go_enter Tryz.func296,Tryz.ntmps296
  go_wp2_with fail
  refine HB.out.mono ?_
  rintro e w' ⟨rfl,rfl⟩
  go_wp2_with fail
  refine HL.out.mono ?_
  rintro e w' ⟨rfl,rfl⟩
  go_wp2_with fail
  refine TR.out.mono ?_
  rintro e w1 ⟨r,os,rfl,-,A1,hb1⟩
  rw [HVA.out] at A1
  have G:Hid (Gives (A^n) w' (.returned (.tuple #[.slice r (List.length os) (List.length os),.int .i64 0])) w1):=by
   rw [E.out]
   exact ⟨.inl ⟨HAs.out,r,os,rfl,A1⟩,hb1⟩
  clear A1 hb1
  go_wp2_with fail
  go_ret2
  exact G.out
 have hL2':(2:Int)≤(L:Int):=by omega
 have hA2:Hid (2^(L - 1)≤A):=by
  have h1:=HL2.out.2.2
  have h2:0<A:=by
   rcases (show A=0∨0<A by omega) with h | h
   ·have:=HL2.out.2.1 h;omega
   ·exact h
  exact (h1 h2).2
 have hA1:Hid (1≤A):=by
  have:=Nm.two_pos (L - 1)
  have:=hA2.out
  show _≤_
  omega
 obtain ⟨c,hc⟩:∃c,262143/((L:Int) - 1)=c:=⟨_,rfl⟩
 have d1:=Int.emod_add_mul_ediv 262143 ((L:Int) - 1)
 have d2:=Int.emod_nonneg 262143 (show (L:Int) - 1≠0 by omega)
 have d3:=Int.emod_lt_of_pos 262143 (show 0<(L:Int) - 1 by omega)
 have d4:0≤c:=by rw [←hc];exact Int.ediv_nonneg (by omega) (by omega)
 rw [hc] at d1
 have hc2:(262143:Int).tdiv ((L:Int) - 1)=c:=by rw [Int.tdiv_eq_ediv_of_nonneg (by omega)];exact hc
 have hz:(((L:Int) - 1) == 0)=false:=by rw [beq_eq_false_iff_ne];omega
 have hc3:c≤262143:=by
  have e1:1*c≤((L:Int) - 1)*c:=Int.mul_le_mul_of_nonneg_right (by omega) d4
  omega
 by_cases hb:c<(n:Int)
 ·have G:Hid (Gives (A^n) w (.returned (.tuple #[.slice none 0 0,.int .i64 2])) w):=by
   refine ⟨.inr ⟨Pn.early hA2.out ?_,rfl⟩,Below.refl _ _⟩
   have e1:((L:Int) - 1)*(c+1)≤((L:Int) - 1)*(n:Int):=Int.mul_le_mul_of_nonneg_left (by omega) (by omega)
   rw [Int.mul_add,Int.mul_one] at e1
   have e2:(((L - 1)*n:Nat):Int)=((L:Int) - 1)*(n:Int):=by rw [Int.natCast_mul,show ((L - 1:Nat):Int)=(L:Int) - 1 by omega]
   omega
  clear d1 d2 d3
  go_enter Tryz.func296,Tryz.ntmps296
  go_wp2_with fail
  refine HB.out.mono ?_
  rintro e w' ⟨rfl,rfl⟩
  go_wp2_with fail
  refine HL.out.mono ?_
  rintro e w' ⟨rfl,rfl⟩
  go_wp2_with fail
  go_ret2
  exact G.out
 ·have hb':(n:Int)≤c:=by omega
  have P:=hid (power_any p m cap zs A n w HA.out HT.out HVA.out hA1.out (by omega) (by omega))
  clear d1 d2 d3 hb
  go_enter Tryz.func296,Tryz.ntmps296
  go_wp2_with fail
  refine HB.out.mono ?_
  rintro e w' ⟨rfl,rfl⟩
  go_wp2_with fail
  refine HL.out.mono ?_
  rintro e w' ⟨rfl,rfl⟩
  go_wp2_with fail
  refine P.out.mono ?_
  rintro e w1 ⟨h | h,hb1⟩
  ·obtain ⟨h1,r,os,rfl,A1⟩:=h
   have G:Hid (Gives (A^n) w' (.returned (.tuple #[.slice r (List.length os) (List.length os),.int .i64 0])) w1):=⟨.inl ⟨h1,r,os,rfl,A1⟩,hb1⟩
   clear h1 A1 hb1
   go_wp2_with fail
   go_ret2
   exact G.out
  ·obtain ⟨h1,rfl⟩:=h
   have G:Hid (Gives (A^n) w' (.returned (.tuple #[.slice none 0 0,.int .i64 2])) w1):=⟨.inr ⟨h1,rfl⟩,hb1⟩
   clear h1 hb1
   go_wp2_with fail
   go_ret2
   exact G.out
end Go.Proofs.YtbdhlfklcdegdaaGreatDoor

namespace Go.Proofs.YtbdhlfklcdegdaaGreatDoor
open Go.RowKit Go.Deep
theorem pow5_gives (k:Int) (n:Nat) (w:World) (hk:k=(n:Int)) (hk1:k≤9223372036854775807):
  Calls Tryz.prog 280 #[.int .i64 k] w fun e w'=>Gives (5^n) w e w':=by
 have hb:Below w.heap.size w (w.alloc (.cells #[.int .u64 5] 24)):=(Below.refl _ _).alloc (Nat.le_refl _) _
 have A:Arg (w.alloc (.cells #[.int .u64 5] 24)) (some ⟨w.heap.size,0,none⟩) 1 1 [5]:=⟨rfl,Nat.le_refl _,by omega,(Own.alloc w [5]).lies,limb_one (by omega)⟩
 have P:=hid (pow_gives _ 1 1 [5] 5 k n _ A (by simp [Nm.tsize]) (by simp [Nm.val]) hk hk1)
 have HB:=hid hb
 clear hb A hk
 go_enter Tryz.func280,Tryz.ntmps280
 go_wp2_with fail
 refine P.out.mono ?_
 rintro e w1 ⟨h | h,hb1⟩
 ·obtain ⟨h1,r,os,rfl,A1⟩:=h
  have G:Hid (Gives (5^n) w (.returned (.tuple #[.slice r (List.length os) (List.length os),.int .i64 0])) w1):=⟨.inl ⟨h1,r,os,rfl,A1.upT HB.out.size⟩,chain HB.out hb1 (Nat.le_refl _)⟩
  clear h1 A1 hb1
  go_wp2_with fail
  go_ret2
  exact G.out
 ·obtain ⟨h1,rfl⟩:=h
  have G:Hid (Gives (5^n) w (.returned (.tuple #[.slice none 0 0,.int .i64 2])) w1):=⟨.inr ⟨h1,rfl⟩,chain HB.out hb1 (Nat.le_refl _)⟩
  clear h1 hb1
  go_wp2_with fail
  go_ret2
  exact G.out
end Go.Proofs.YtbdhlfklcdegdaaGreatDoor
