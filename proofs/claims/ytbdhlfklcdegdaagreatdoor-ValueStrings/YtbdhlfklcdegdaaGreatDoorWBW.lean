/-
  Texts put together: QRPow2, QRPow3.
-/
import Derived.Test.YtbdhlfklcdegdaaGreatDoorWBP
import Derived.Test.YtbdhlfklcdegdaaGreatDoorWAH
import Derived.Test.YtbdhlfklcdegdaaGreatDoorWAJ
namespace Go.Proofs.YtbdhlfklcdegdaaGreatDoor
open Go.RowKit Go.Deep
theorem pval_one (x:Int):Nm.val [x]=x:=by simp [Nm.val]
theorem rsame_is (s:Bool) (p q:Option Addr) (n cap m cap':Nat) (zs ys:List Int) (w:World) (ha:Arg w p n cap zs) (hb:Arg w q m cap' ys) (hs:decide (Nm.val zs=Nm.val ys)=s):
  Calls Tryz.prog 319 #[.slice p n cap,.slice q m cap'] w fun e w'=>e=.returned (.bool s)∧Below w.heap.size w w':=by
 obtain ⟨c,hc⟩:∃c,cmpI (Nm.val zs) (Nm.val ys)=c:=⟨_,rfl⟩
 have E:Hid ((c == 0)=s):=by
  rw [Hid,←hs,←hc,cmpI]
  by_cases h1:Nm.val zs<Nm.val ys
  ·rw [if_pos h1];simp;omega
  ·rw [if_neg h1]
   by_cases h2:Nm.val zs=Nm.val ys
   ·rw [if_pos h2];simp [h2]
   ·rw [if_neg h2];simp [h2]
 have O:=hid (order_is c p q n cap m cap' zs ys w ha hb hc)
 clear hc hs ha hb
 go_enter Tryz.func319,Tryz.ntmps319
 go_wp2_with fail
 refine O.out.mono ?_
 rintro e w1 ⟨rfl,d1⟩
 have D1:=hid d1
 clear d1 O
 go_wp2_with fail
 go_ret
 exact ⟨ret_bool E.out,D1.out⟩
set_option maxRecDepth 100000 in
set_option maxHeartbeats 2000000 in
theorem rpow_gives (p:Option Addr) (m cap:Nat) (zs:List Int) (A k:Int) (n:Nat) (w:World) (ha:Arg w p m cap zs) (tz:Nm.tsize zs≤4096) (hA:Nm.val zs=A) (hk:k=(n:Int)) (hk1:k<9223372036854775808):
  Calls Tryz.prog 309 #[.slice p m cap,.int .i64 k] w fun e w'=>Gives (A^n) w e w':=by
 have a2:=ha.2.1
 have a3:=ha.2.2.1
 obtain ⟨N,HN⟩:∃N,Hid (Nm.tsize zs=N):=⟨_,rfl⟩
 have hN:decide (4096<(N:Int))=false:=by have:=HN.out;simp;omega
 have T:=top_any p m cap zs w ha.1 (by omega) ha.2.2.2.1
 rw [HN.out] at T
 have L1:=hid T
 have hb:Below w.heap.size w (w.alloc (.cells #[.int .u64 1] 24)):=(Below.refl _ _).alloc (Nat.le_refl _) _
 have A1:Arg (w.alloc (.cells #[.int .u64 1] 24)) (some ⟨w.heap.size,0,none⟩) 1 1 [1]:=⟨rfl,Nat.le_refl _,by omega,(Own.alloc w [1]).lies,limb_one (by omega)⟩
 have N1:Ans w.heap.size (w.alloc (.cells #[.int .u64 1] 24)) (some ⟨w.heap.size,0,none⟩) [1] 1:=⟨(Own.alloc w [1]).lies,limb_one (by omega),by simp [Nm.tsize],by simp [Nm.val],fun a h=>by cases h;exact Nat.le_refl _⟩
 have HA1:=hid A1
 have HN1:=hid N1
 have HB:=hid hb
 have HA:=hid (ha.below hb (Nat.le_refl _))
 have A0:=(Nm.val_bd zs ha.2.2.2.2).1
 have hzz:=Nm.tsize_zero_iff ha.2.2.2.2
 rw [hA] at A0 hzz
 have HV:=hid hA
 have HT:=hid tz
 subst hk
 clear T hb A1 N1 ha tz hA
 by_cases h0:n=0
 ·subst h0
  have F:Hid (Gives (A^0) w (.returned (.tuple #[.slice (some ⟨w.heap.size,0,none⟩) 1 1,.int .i64 0])) (w.alloc (.cells #[.int .u64 1] 24))):=by
   rw [Int.pow_zero]
   exact ⟨.inl ⟨one_lt_pw,_,[1],rfl,HN1.out⟩,HB.out⟩
  clear hzz
  go_enter Tryz.func309,Tryz.ntmps309
  go_wp2_with fail
  refine L1.out.mono ?_
  rintro e w' ⟨rfl,rfl⟩
  go_wp2_with fail
  go_ret2
  exact F.out
 have hn0:((n:Int) == 0)=false:=by rw [beq_eq_false_iff_ne];omega
 have HK1:=hid hk1
 have hnn:decide ((n:Int)<0)=false:=by simp
 clear hk1
 by_cases h1:A=1
 ·have SA:=hid (rsame_is true p _ m cap 1 1 zs [1] _ HA.out HA1.out (by rw [HV.out,pval_one,h1];simp))
  have E:Hid (A^n=1):=by rw [Hid,h1,Int.one_pow]
  clear h1 hzz h0
  go_enter Tryz.func309,Tryz.ntmps309
  go_wp2_with fail
  refine L1.out.mono ?_
  rintro e w' ⟨rfl,rfl⟩
  go_wp2_with fail
  refine SA.out.mono ?_
  rintro e w2 ⟨rfl,d2⟩
  have F:Hid (Gives (A^n) w' (.returned (.tuple #[.slice (some ⟨w'.heap.size,0,none⟩) 1 1,.int .i64 0])) w2):=by
   rw [E.out]
   exact ⟨.inl ⟨one_lt_pw,_,[1],rfl,HN1.out.below d2 (Nat.le_refl _)⟩,chain HB.out d2 (Nat.le_refl _)⟩
  clear d2
  go_wp2_with fail
  go_ret2
  exact F.out
 have SA:=hid (rsame_is false p _ m cap 1 1 zs [1] _ HA.out HA1.out (by rw [HV.out,pval_one];simp [h1]))
 by_cases h2:N=0
 ·have hA0:A=0:=hzz.1 (by rw [HN.out];exact h2)
  have E:Hid (A^n=0):=by
   obtain ⟨n',rfl⟩:∃n',n=n'+1:=⟨n - 1,by omega⟩
   rw [Hid,hA0,Int.pow_succ,Int.mul_zero]
  subst h2
  clear h1 hzz hA0 h0
  go_enter Tryz.func309,Tryz.ntmps309
  go_wp2_with fail
  refine L1.out.mono ?_
  rintro e w' ⟨rfl,rfl⟩
  go_wp2_with fail
  refine SA.out.mono ?_
  rintro e w2 ⟨rfl,d2⟩
  have T2:=top_any p m cap zs w2 HA.out.1 (by omega) (HA.out.below d2 (Nat.le_refl _)).2.2.2.1
  rw [HN.out] at T2
  have HT2:=hid T2
  have F:Hid (Gives (A^n) w' (.returned (.tuple #[.slice none 0 0,.int .i64 0])) w2):=by
   rw [E.out]
   exact ⟨.inl ⟨by have:=one_lt_pw;exact Int.lt_trans (by omega) this,none,[],rfl,ans_none _ _ _ (fun a h=>by cases h)⟩,chain HB.out d2 (Nat.le_refl _)⟩
  clear d2 T2
  go_wp2_with fail
  refine HT2.out.mono ?_
  rintro e w3 ⟨rfl,rfl⟩
  go_wp2_with fail
  go_ret2
  exact F.out
 ·have hN0:((N:Int) == 0)=false:=by rw [beq_eq_false_iff_ne];omega
  have HA1':Hid (1≤A):=by
   show _≤_
   rcases (show A=0∨1≤A by omega) with h | h
   ·exact absurd (HN.out.symm.trans (hzz.2 h)) h2
   ·exact h
  clear h1 hzz h0 h2
  go_enter Tryz.func309,Tryz.ntmps309
  go_wp2_with fail
  refine L1.out.mono ?_
  rintro e w' ⟨rfl,rfl⟩
  go_wp2_with fail
  refine SA.out.mono ?_
  rintro e w2 ⟨rfl,d2⟩
  have HA2:=hid (HA.out.below d2 (Nat.le_refl _))
  have D2:=hid (chain HB.out d2 (Nat.le_refl _))
  have T2:=top_any p m cap zs w2 HA2.out.1 (by omega) HA2.out.2.2.2.1
  rw [HN.out] at T2
  have HT2:=hid T2
  have PW:=hid (rpower_any p m cap zs A HV.out HA1'.out HT.out n w2 HA2.out (by have:=HK1.out;omega))
  clear d2 T2
  go_wp2_with fail
  refine HT2.out.mono ?_
  rintro e w3 ⟨rfl,rfl⟩
  go_wp2_with fail
  refine PW.out.mono ?_
  rintro e w4 ⟨h | h,d4⟩
  ·obtain ⟨h1,r,os,rfl,A4⟩:=h
   have F:Hid (Gives (A^n) w' (.returned (.tuple #[.slice r (List.length os) (List.length os),.int .i64 0])) w4):=⟨.inl ⟨h1,r,os,rfl,A4.upT D2.out.size⟩,chain D2.out d4 (Nat.le_refl _)⟩
   clear h1 A4 d4
   go_wp2_with fail
   go_ret2
   exact F.out
  ·obtain ⟨h1,rfl⟩:=h
   have F:Hid (Gives (A^n) w' (.returned (.tuple #[.slice none 0 0,.int .i64 2])) w4):=⟨.inr ⟨h1,rfl⟩,chain D2.out d4 (Nat.le_refl _)⟩
   clear h1 d4
   go_wp2_with fail
   go_ret2
   exact F.out
end Go.Proofs.YtbdhlfklcdegdaaGreatDoor

namespace Go.Proofs.YtbdhlfklcdegdaaGreatDoor
open Go.RowKit Go.Deep
theorem rpow10_gives (k:Int) (n:Nat) (w:World) (hk:k=(n:Int)) (hk1:k<9223372036854775808):
  Calls Tryz.prog 300 #[.int .i64 k] w fun e w'=>Gives (10^n) w e w':=by
 have hb:Below w.heap.size w (w.alloc (.cells #[.int .u64 10] 24)):=(Below.refl _ _).alloc (Nat.le_refl _) _
 have A:Arg (w.alloc (.cells #[.int .u64 10] 24)) (some ⟨w.heap.size,0,none⟩) 1 1 [10]:=⟨rfl,Nat.le_refl _,by omega,(Own.alloc w [10]).lies,limb_one (by omega)⟩
 have P:=hid (rpow_gives _ 1 1 [10] 10 k n _ A (by simp [Nm.tsize]) (by simp [Nm.val]) hk hk1)
 have HB:=hid hb
 clear hb A hk hk1
 go_enter Tryz.func300,Tryz.ntmps300
 go_wp2_with fail
 refine P.out.mono ?_
 rintro e w1 ⟨h | h,hb1⟩
 ·obtain ⟨h1,r,os,rfl,A1⟩:=h
  have G:Hid (Gives (10^n) w (.returned (.tuple #[.slice r (List.length os) (List.length os),.int .i64 0])) w1):=⟨.inl ⟨h1,r,os,rfl,A1.upT HB.out.size⟩,chain HB.out hb1 (Nat.le_refl _)⟩
  clear h1 A1 hb1
  go_wp2_with fail
  go_ret2
  exact G.out
 ·obtain ⟨h1,rfl⟩:=h
  have G:Hid (Gives (10^n) w (.returned (.tuple #[.slice none 0 0,.int .i64 2])) w1):=⟨.inr ⟨h1,rfl⟩,chain HB.out hb1 (Nat.le_refl _)⟩
  clear h1 hb1
  go_wp2_with fail
  go_ret2
  exact G.out
end Go.Proofs.YtbdhlfklcdegdaaGreatDoor
