/-
  Texts put together: QDivOk, NSpread, NWritten, NInBase, NGood, SOne2, QNearD.
-/
import Derived.Test.YtbdhlfklcdegdaaGreatDoorWBB
import Derived.Test.YtbdhlfklcdegdaaGreatDoorWAH
import Derived.Deep.RegionWith
import Derived.Deep.CutRange
import Derived.Deep.DeepFit
import Derived.Test.YtbdhlfklcdegdaaGreatDoorWAX
import Derived.Test.YtbdhlfklcdegdaaGreatDoorWAQ
namespace Go.Proofs.YtbdhlfklcdegdaaGreatDoor
open Go.RowKit Go.Deep
theorem Ans.up {B B':Nat} {w:World} {p:Option Addr} {ys:List Int} {n:Int} (h:Ans B w p ys n) (hB:B'≤B):Ans B' w p ys n:=
 ⟨h.1,h.2.1,h.2.2.1,h.2.2.2.1,fun a ha=>Nat.le_trans hB (h.2.2.2.2 a ha)⟩
set_option maxRecDepth 100000 in
set_option maxHeartbeats 1000000 in
theorem divMod_one (p q:Option Addr) (n cap m cap':Nat) (zs ys:List Int) (w:World) (ha:Arg w p n cap zs) (hb:Arg w q m cap' ys) (tz:Nm.tsize zs≤4096) (ty:Nm.tsize ys=1):
  Calls Tryz.prog 313 #[.slice p n cap,.slice q m cap'] w fun e w'=>Splits (Nm.val zs) (Nm.val ys) w e w':=by
 obtain ⟨b',off',rfl,hbw',HC'⟩:=hb.2.2.2.1.trim.at (by rw [Nm.trim_length];omega)
 obtain ⟨d,hd,D⟩:∃d,w.cell? ⟨b',off',none⟩=some (.int .u64 d)∧Hid (d=(Nm.trim ys).getD 0 0):=⟨_,HC'.out 0 (by rw [Nm.trim_length];omega),rfl⟩
 have hdb:=hb.2.2.2.2.trim.at 0
 rw [←D.out] at hdb
 have hdv:Nm.val ys=d:=by
  have h1:=Nm.val_trim ys
  have h2:=Nm.trim_length ys
  rw [ty] at h2
  obtain ⟨y,hy⟩:=List.length_eq_one_iff.1 h2
  have h3:=D.out
  rw [hy] at h1 h3
  simp [Nm.val] at h1 h3
  omega
 have hd0:0<d:=by
  have:=Nm.val_ge_top hb.2.2.2.2 (by omega)
  rw [ty] at this
  simp [Nm.pw] at this
  omega
 obtain ⟨_,hd1⟩:=hdb
 obtain ⟨N,HN⟩:∃N,Hid (Nm.tsize zs=N):=⟨_,rfl⟩
 obtain ⟨M,HM⟩:∃M,Hid (Nm.tsize ys=M):=⟨_,rfl⟩
 have h1':(N:Int)≤4096:=by have:=HN.out;omega
 have h2':(M:Int)≤4096:=by have:=HM.out;omega
 have h3':((M:Int) == 0)=false:=by have:=HM.out;simp;omega
 have h5':((M:Int) == 1)=true:=by have:=HM.out;simp;omega
 have h6':(0:Int)<(M:Int):=by have:=HM.out;omega
 have h2:(N:Int)≤(cap:Int):=by have:=ha.tl;have:=ha.2.1;have:=HN.out;omega
 have h4:(M:Int)≤(cap':Int):=by have:=hb.tl;have:=hb.2.1;have:=HM.out;omega
 have CU:=ha.cut
 rw [HN.out] at CU
 have HCU:=hid CU
 have HT:Hid (Nm.tsize (Nm.trim zs)≤4096):=by show _≤_;rw [Nm.trim_trim];exact tz
 have HA:=hid ha
 have HB:=hid hb
 have HV:=hid hdv
 clear ha hb ty tz CU hbw' HC' D hdv
 go_enter Tryz.func313,Tryz.ntmps313
 go_wp2_with fail
 refine (limbs_is p n cap zs N _ HA.out HN.out).mono ?_
 rintro e w' ⟨rfl,rfl⟩
 go_wp2_with fail
 refine (limbs_is _ m cap' ys M _ HB.out HM.out).mono ?_
 rintro e w' ⟨rfl,rfl⟩
 go_wp2_with fail
 go_quiet ((go_at_call 307;first | exact Calls.quiet_of_same (limbs_is p n cap zs N _ (HA.out.drew _) HN.out) | exact Calls.quiet_of_same (limbs_is _ m cap' ys M _ (HB.out.drew _) HM.out)))
 have hd2:(w'.drewN nq).cell? ⟨b',off',none⟩=some (.int .u64 d):=hd
 have HCU2:=hid (HCU.out.drew nq)
 have HB0:Hid (Below w'.heap.size w' (w'.drewN nq)):=below_drewN (Below.refl _ _) nq
 clear hd HCU
 generalize w'.drewN nq=wq at *
 go_wp2_with fail
 refine (divSmall_ok p N cap (Nm.trim zs) d _ HCU2.out HT.out hd0 hd1).mono ?_
 rintro e w2 ⟨r,os,rest,rfl,A1,⟨s0,s1⟩,E,hb2⟩
 have HA1:=hid A1
 have HB2:=hid hb2
 have HE:=hid (div_is s0 s1 E.out)
 have s2:rest<18446744073709551616:=by omega
 clear A1 hb2 E hd2
 go_wp2_with fail
 refine (fromUint_any rest _ s0 s2).mono ?_
 rintro e w3 ⟨r2,os2,rfl,A2,hb3⟩
 have F:Hid (Splits (Nm.val zs) (Nm.val ys) w' (.returned (.tuple #[.slice r (List.length os) (List.length os),.slice r2 (List.length os2) (List.length os2),.int .i64 0])) w3):=by
  have e1:=HE.out
  rw [Nm.val_trim,←HV.out] at e1
  have z1:=HB0.out.size
  have z2:=HB2.out.size
  refine ⟨r,os,r2,os2,rfl,?_,?_,(chain (chain HB0.out HB2.out (Nat.le_refl _)) hb3 (Nat.le_refl _))⟩
  ·rw [e1.1];exact (HA1.out.below hb3 (Nat.le_refl _)).up z1
  ·rw [e1.2];exact A2.up (Nat.le_trans z1 z2)
 clear A2 hb3
 go_wp2_with fail
 go_ret3
 exact F.out
set_option maxRecDepth 100000 in
set_option maxHeartbeats 1000000 in
theorem divMod_less (p q:Option Addr) (n cap m cap':Nat) (zs ys:List Int) (w:World) (ha:Arg w p n cap zs) (hb:Arg w q m cap' ys) (tz:Nm.tsize zs≤4096) (ty:Nm.tsize ys≤4096) (ty2:2≤Nm.tsize ys) (hlt:Nm.val zs<Nm.val ys):
  Calls Tryz.prog 313 #[.slice p n cap,.slice q m cap'] w fun e w'=>Splits (Nm.val zs) (Nm.val ys) w e w':=by
 obtain ⟨N,HN⟩:∃N,Hid (Nm.tsize zs=N):=⟨_,rfl⟩
 obtain ⟨M,HM⟩:∃M,Hid (Nm.tsize ys=M):=⟨_,rfl⟩
 have h1':(N:Int)≤4096:=by have:=HN.out;omega
 have h2':(M:Int)≤4096:=by have:=HM.out;omega
 have h3':((M:Int) == 0)=false:=by have:=HM.out;simp;omega
 have h5':((M:Int) == 1)=false:=by have:=HM.out;rw [beq_eq_false_iff_ne];omega
 have h2:(N:Int)≤(cap:Int):=by have:=ha.tl;have:=ha.2.1;have:=HN.out;omega
 have h4:(M:Int)≤(cap':Int):=by have:=hb.tl;have:=hb.2.1;have:=HM.out;omega
 have CU:=ha.cut
 rw [HN.out] at CU
 have CU':=hb.cut
 rw [HM.out] at CU'
 have HCU:=hid CU
 have HCU':=hid CU'
 have HC:Hid (cmpI (Nm.val (Nm.trim zs)) (Nm.val (Nm.trim ys))=-1):=by show _=_;rw [Nm.val_trim,Nm.val_trim];exact cmpI_lt hlt
 have HD:Hid (Nm.val zs/Nm.val ys=0∧Nm.val zs%Nm.val ys=Nm.val (Nm.trim zs)):=by
  have:=(Nm.val_bd zs ha.2.2.2.2).1
  rw [Nm.val_trim]
  exact div_is this hlt (by omega)
 have HA:=hid ha
 have HB:=hid hb
 clear ha hb ty tz CU CU' ty2 hlt
 go_enter Tryz.func313,Tryz.ntmps313
 go_wp2_with fail
 refine (limbs_is p n cap zs N _ HA.out HN.out).mono ?_
 rintro e w' ⟨rfl,rfl⟩
 go_wp2_with fail
 refine (limbs_is _ m cap' ys M _ HB.out HM.out).mono ?_
 rintro e w' ⟨rfl,rfl⟩
 go_wp2_with fail
 go_quiet ((go_at_call 307;first | exact Calls.quiet_of_same (limbs_is p n cap zs N _ (HA.out.drew _) HN.out) | exact Calls.quiet_of_same (limbs_is _ m cap' ys M _ (HB.out.drew _) HM.out)))
 have HCU2:=hid (HCU.out.drew nq)
 have HCU2':=hid (HCU'.out.drew nq)
 have HB0:Hid (Below w'.heap.size w' (w'.drewN nq)):=below_drewN (Below.refl _ _) nq
 clear HCU HCU'
 generalize w'.drewN nq=wq at *
 go_wp2_with fail
 refine (cmp_is (-1) p q N cap M cap' (Nm.trim zs) (Nm.trim ys) _ HCU2.out HCU2'.out HC.out).mono ?_
 rintro e w2 ⟨rfl,hb2⟩
 have HB2:=hid (chain HB0.out hb2 (Nat.le_refl _))
 have HCU3:=hid (HCU2.out.below hb2 (Nat.le_refl _))
 clear hb2
 go_wp2_with fail
 refine (trim_any p N cap (Nm.trim zs) _ HCU3.out).mono ?_
 rintro e w3 ⟨r,os,rfl,-,A1,hb3⟩
 have F:Hid (Splits (Nm.val zs) (Nm.val ys) w' (.returned (.tuple #[.slice none 0 0,.slice r (List.length os) (List.length os),.int .i64 0])) w3):=by
  have z1:=HB2.out.size
  refine ⟨none,[],r,os,rfl,?_,?_,chain HB2.out hb3 (Nat.le_refl _)⟩
  ·rw [HD.out.1];exact ans_none _ _ _ (fun a h=>by cases h)
  ·rw [HD.out.2];exact A1.up z1
 clear A1 hb3
 go_wp2_with fail
 go_ret3
 exact F.out
theorem first_room {zs ys:List Int} (hz:Nm.Limbs zs) (hy:Nm.Limbs ys) {N M K:Nat} (hN:Nm.tsize zs=N) (hM:Nm.tsize ys=M) (hM0:0<M) (hK:N+1=K+M):Nm.val zs<Nm.pw K*Nm.val ys:=by
 have h1:=Nm.val_lt_tsize hz
 have h2:=Nm.val_ge_top hy (by omega)
 rw [hN] at h1
 rw [hM] at h2
 have h3:Nm.pw K*Nm.pw (M - 1)≤Nm.pw K*Nm.val ys:=Int.mul_le_mul_of_nonneg_left h2 (by have:=Nm.pw_pos K;omega)
 rw [←Nm.pw_add,show K+(M - 1)=N by omega] at h3
 omega
set_option maxRecDepth 100000 in
set_option maxHeartbeats 1000000 in
theorem divMod_long (p q:Option Addr) (n cap m cap':Nat) (zs ys:List Int) (w:World) (ha:Arg w p n cap zs) (hb:Arg w q m cap' ys) (tz:Nm.tsize zs≤4096) (ty:Nm.tsize ys≤4096) (ty2:2≤Nm.tsize ys) (hge:Nm.val ys≤Nm.val zs):
  Calls Tryz.prog 313 #[.slice p n cap,.slice q m cap'] w fun e w'=>Splits (Nm.val zs) (Nm.val ys) w e w':=by
 obtain ⟨N,HN⟩:∃N,Hid (Nm.tsize zs=N):=⟨_,rfl⟩
 obtain ⟨M,HM⟩:∃M,Hid (Nm.tsize ys=M):=⟨_,rfl⟩
 have hNM:M≤N:=by
  rcases Nat.lt_or_ge N M with h | h
  ·have:=val_lt_of_tsize ha.2.2.2.2 hb.2.2.2.2 (by rw [HN.out,HM.out];exact h)
   omega
  ·exact h
 obtain ⟨K,HK⟩:∃K,Hid (N+1=K+M):=⟨N+1 - M,by show _=_;omega⟩
 have RM:=hid (first_room ha.2.2.2.2 hb.2.2.2.2 HN.out HM.out (by have:=HM.out;omega) HK.out)
 have h1':(N:Int)≤4096:=by have:=HN.out;omega
 have h2':(M:Int)≤4096:=by have:=HM.out;omega
 have h3':((M:Int) == 0)=false:=by have:=HM.out;simp;omega
 have h5':((M:Int) == 1)=false:=by have:=HM.out;rw [beq_eq_false_iff_ne];omega
 have h2:(N:Int)≤(cap:Int):=by have:=ha.tl;have:=ha.2.1;have:=HN.out;omega
 have h4:(M:Int)≤(cap':Int):=by have:=hb.tl;have:=hb.2.1;have:=HM.out;omega
 have CU:=ha.cut
 rw [HN.out] at CU
 have CU':=hb.cut
 rw [HM.out] at CU'
 have HCU:=hid CU
 have HCU':=hid CU'
 obtain ⟨c,hc0,HC⟩:∃c:Int,0≤c∧Hid (cmpI (Nm.val (Nm.trim zs)) (Nm.val (Nm.trim ys))=c):=by
  rw [Nm.val_trim,Nm.val_trim]
  rcases (show Nm.val zs=Nm.val ys∨Nm.val ys<Nm.val zs by omega) with h | h
  ·exact ⟨0,by omega,cmpI_eq h⟩
  ·exact ⟨1,by omega,cmpI_gt h⟩
 have HA:=hid ha
 have HB:=hid hb
 have hM2:2≤M:=by have:=HM.out;omega
 clear ha hb ty tz CU CU' ty2 hge
 go_enter Tryz.func313,Tryz.ntmps313
 go_wp2_with fail
 refine (limbs_is p n cap zs N _ HA.out HN.out).mono ?_
 rintro e w' ⟨rfl,rfl⟩
 go_wp2_with fail
 refine (limbs_is _ m cap' ys M _ HB.out HM.out).mono ?_
 rintro e w' ⟨rfl,rfl⟩
 go_wp2_with fail
 go_quiet ((go_at_call 307;first | exact Calls.quiet_of_same (limbs_is p n cap zs N _ (HA.out.drew _) HN.out) | exact Calls.quiet_of_same (limbs_is _ m cap' ys M _ (HB.out.drew _) HM.out)))
 have HCU2:=hid (HCU.out.drew nq)
 have HCU2':=hid (HCU'.out.drew nq)
 have HB0:Hid (Below w'.heap.size w' (w'.drewN nq)):=below_drewN (Below.refl _ _) nq
 clear HCU HCU'
 generalize w'.drewN nq=wq at *
 go_wp2_with fail
 refine (cmp_is c p q N cap M cap' (Nm.trim zs) (Nm.trim ys) _ HCU2.out HCU2'.out HC.out).mono ?_
 rintro e w2 ⟨rfl,hb2⟩
 have HB2:=hid (chain HB0.out hb2 (Nat.le_refl _))
 have HCU3:=hid (HCU2.out.below hb2 (Nat.le_refl _))
 have HCU3':=hid (HCU2'.out.below hb2 (Nat.le_refl _))
 clear hb2 HCU2 HCU2' HB0
 have hmk:=make64 (N+1) (by omega) w2
 have em:((N+1:Nat):Int)=(N:Int)+1:=by omega
 rw [em] at hmk
 clear em
 have hb0:Below w2.heap.size w2 (w2.alloc (.cells (madeCells #[.int .u64 0] (N+1)) 24)):=(Below.refl _ _).alloc (Nat.le_refl _) _
 have ho:Own (w2.alloc (.cells (madeCells #[.int .u64 0] (N+1)) 24)) w2.heap.size (List.replicate (N+1) 0):=by
  rw [made_zero];exact Own.alloc w2 _
 obtain ⟨w3,hcp,ho1,hb1,hz1⟩:=copy64 w2.heap.size (N+1) (List.replicate (N+1) 0) p N cap (Nm.trim zs) 3 _ (by simp) (by rw [Nm.trim_length,HN.out]) (by omega) ho (HCU3.out.2.2.2.1.below hb0 (Nat.le_refl _))
 have e1:List.drop N (List.replicate (N+1) (0:Int))=[0]:=by simp
 rw [e1] at ho1
 have HO:=hid ho1
 have HB3:=hid (hb0.trans hb1)
 have HW3:Hid (w2.heap.size<w3.heap.size):=ho1.lt
 clear e1 ho1 hb1 ho hb0 hz1
 have DV:=divide_any w2.heap.size (N+1) K (M - 2) M cap' (Nm.trim zs++[0]) q (Nm.trim ys) w3 HO.out (by simp [Nm.trim_length,HN.out]) (by omega) (Nm.Limbs.append HCU3.out.2.2.2.2 (limb_one (by omega))) (by omega) HK.out (by rw [Nm.trim_length,HM.out]) (by omega) (by have:=HCU3'.out.2.2.1;omega)
  (HCU3'.out.2.2.2.1.below HB3.out (Nat.le_refl _)) HCU3'.out.2.2.2.2 (HCU3'.out.2.2.2.1.lt (by rw [Nm.trim_length,HM.out];omega)) (by
   have:=Nm.tsize_top (Nm.trim ys) (by rw [Nm.trim_trim,HM.out];omega)
   rw [Nm.trim_trim,HM.out] at this
   rw [show M - 2+1=M - 1 by omega]
   exact this) (by
   have e:Nm.val (Nm.trim zs++[0])=Nm.val zs:=by rw [Nm.val_append,Nm.val_trim];simp [Nm.val]
   rw [e,Nm.val_trim]
   exact RM.out)
 have HDV:=hid DV
 clear DV
 go_wp2_with fail
 refine HDV.out.mono ?_
 rintro e w4 ⟨os,rs,rfl,I⟩
 have bz:=(Nm.val_bd rs I.out.lim).1
 have HE:Hid (Nm.val zs/Nm.val ys=Nm.val os∧Nm.val zs%Nm.val ys=Nm.val rs):=by
  have h1:=I.out.eq
  have h2:=I.out.lt
  have e:Nm.val (Nm.trim zs++[0])=Nm.val zs:=by rw [Nm.val_append,Nm.val_trim];simp [Nm.val]
  rw [e,Nm.val_trim] at h1
  rw [Nm.val_trim] at h2
  simp only [Nm.pw,Int.one_mul] at h2
  exact div_is bz h2 h1
 have HB4:=hid ((HB2.out.trans (HB3.out.mono HB2.out.size)).trans (I.out.low.mono HB2.out.size))
 have hK64:K≤17592186044416:=by have:=HK.out;omega
 have A1:Hid (Arg w4 (some ⟨w3.heap.size,0,none⟩) K K os):=⟨I.out.len2,Nat.le_refl _,hK64,I.out.own2.lies,I.out.lim2⟩
 have HZ:=hid HB2.out.size
 clear bz hmk hcp HDV
 go_wp2_with fail
 refine (trim_any _ K K os _ A1.out).mono ?_
 rintro e w5 ⟨r,os',rfl,-,A2,hb5⟩
 have HB5:=hid (chain HB4.out hb5 (Nat.le_refl _))
 have A3:Hid (Arg w5 (some ⟨w2.heap.size,0,none⟩) (N+1) (N+1) rs):=⟨I.out.len,Nat.le_refl _,by omega,(I.out.own.below hb5 I.out.own.lt).lies,I.out.lim⟩
 have HA2:=hid (A2.up (B':=w'.heap.size) (HB4.out.size))
 clear A2 hb5
 go_wp2_with fail
 refine (trim_any _ (N+1) (N+1) rs _ A3.out).mono ?_
 rintro e w6 ⟨r2,os2,rfl,-,A4,hb6⟩
 have F:Hid (Splits (Nm.val zs) (Nm.val ys) w' (.returned (.tuple #[.slice r (List.length os') (List.length os'),.slice r2 (List.length os2) (List.length os2),.int .i64 0])) w6):=by
  refine ⟨r,os',r2,os2,rfl,?_,?_,chain HB5.out hb6 (Nat.le_refl _)⟩
  ·rw [HE.out.1];exact HA2.out.below hb6 (Nat.le_refl _)
  ·rw [HE.out.2];exact A4.up HB5.out.size
 clear A4 hb6
 go_wp2_with fail
 go_ret3
 exact F.out
theorem divMod_ok (p q:Option Addr) (n cap m cap':Nat) (zs ys:List Int) (w:World) (ha:Arg w p n cap zs) (hb:Arg w q m cap' ys) (tz:Nm.tsize zs≤4096) (ty:Nm.tsize ys≤4096) (hy:0<Nm.tsize ys):
  Calls Tryz.prog 313 #[.slice p n cap,.slice q m cap'] w fun e w'=>Splits (Nm.val zs) (Nm.val ys) w e w':=by
 by_cases h1:Nm.tsize ys=1
 ·exact divMod_one p q n cap m cap' zs ys w ha hb tz h1
 by_cases h2:Nm.val zs<Nm.val ys
 ·exact divMod_less p q n cap m cap' zs ys w ha hb tz ty (by omega) h2
 ·exact divMod_long p q n cap m cap' zs ys w ha hb tz ty (by omega) (by omega)
end Go.Proofs.YtbdhlfklcdegdaaGreatDoor

namespace Go.Proofs.YtbdhlfklcdegdaaGreatDoor
open Go.RowKit Go.Deep
def Pows (g:Nat) (b:Int) (pm:Option Addr) (K:Nat) (w:World):Prop:=
 ∀s,s<K→∃gm r us,pm=some ⟨gm,0,none⟩∧gm<g∧w.cell? ⟨gm,s,none⟩=some (.slice r (List.length us) (List.length us))∧Arg w r us.length us.length us∧Nm.val us=b^(2^s)∧Nm.tsize us≤4096∧∀a,r=some a→a.block<g
theorem Pows.only {g:Nat} {b:Int} {pm:Option Addr} {K:Nat} {w w':World} (h:Pows g b pm K w) (k:Only g w w'):Pows g b pm K w':=by
 intro s hs
 obtain ⟨gm,r,us,h1,h2,h3,h4,h5,h6,h7⟩:=h s hs
 exact ⟨gm,r,us,h1,h2,k.cell h3 (Nat.ne_of_lt h2),h4.only k (fun a ha=>Nat.ne_of_lt (h7 a ha)),h5,h6,h7⟩
def Spread (B:Int) (g o L:Nat) (ds:List Int) (V:Int) (w w':World):Prop:=OwnB w' g (put ds o (Dn.dg B L V))∧Only g w w'
structure ShutN (p:Prop):Prop where
 out:p
theorem Ans.smallT {B:Nat} {w:World} {p:Option Addr} {ys:List Int} {n:Int} (h:Ans B w p ys n) (hn:n<Nm.pw 4096):ys.length≤4096:=by
 have h1:=(Nm.tsize_le_iff h.2.1 4096).2 (by rw [h.2.2.2.1];exact hn)
 have h2:=h.2.2.1
 omega
theorem Ans.tsN {B:Nat} {w:World} {p:Option Addr} {ys:List Int} {n:Int} (h:Ans B w p ys n) (hn:n<Nm.pw 4096):Nm.tsize ys≤4096:=(Nm.tsize_le_iff h.2.1 4096).2 (by rw [h.2.2.2.1];exact hn)
theorem below_drew (w:World):Below w.heap.size w w.drew:=(Below.refl _ _).drew
set_option maxRecDepth 100000 in
set_option maxHeartbeats 4000000 in
theorem spread_any (B:Int) (W g K cp:Nat) (pm:Option Addr) (h2:2≤B) (h36:B≤36) (hW1:1≤W) (hW:W≤63) (hBW:B^W<18446744073709551616) (hK:K≤18):∀(k:Nat),k≤K→k≤cp→∀(o L cap n c:Nat) (p:Option Addr) (za ds:List Int) (V:Int) (w:World),
  L=W*2^k→OwnB w g ds→o+L≤ds.length→L≤cap→cap≤35184372088832→Arg w p n c za→(∀a,p=some a→a.block≠g)→Nm.val za=V→V<B^L→Nm.tsize za≤4096→Pows g (B^W) pm K w→
  Calls Tryz.prog 305 #[.slice (some ⟨g,o,none⟩) L cap,.slice p n c,.slice pm k cp,.int .u64 B] w fun e w'=>e=.returned (.tuple #[])∧Spread B g o L ds V w w':=by
 intro k
 induction k with
 | zero=>
  intro _ _ o L cap n c p za ds V w hL hd hol hc hcm ha hp hV hV1 ht hP
  rw [Nat.pow_zero,Nat.mul_one] at hL
  subst hL
  exact spread_zero B L g o cap cp n c p pm za ds V w h2 h36 hW hd hol ha hV (by omega)
 | succ k ih=>
  intro hkK hkc o L cap n c p za ds V w hL hd hol hc hcm ha hp hV hV1 ht hP
  obtain ⟨H,hH⟩:∃H,W*2^k=H:=⟨_,rfl⟩
  have hLH:L=H+H:=by rw [hL,Nat.pow_succ,←Nat.mul_assoc,hH];omega
  subst hLH
  have hB1:0<B:=by omega
  have hV0:0≤V:=by rw [←hV];exact (Nm.val_bd za ha.2.2.2.2).1
  obtain ⟨gm,r,us,e1,e2,hcell,hr,hus,htu,hrb⟩:=hP k (by omega)
  subst e1
  have ePk:Nm.val us=B^H:=by rw [hus,←Int.pow_mul,hH]
  have hPk:0<B^H:=Int.pow_pos hB1
  have htu0:0<Nm.tsize us:=by
   rcases Nat.eq_zero_or_pos (Nm.tsize us) with c | c
   ·have:=(Nm.tsize_zero_iff hr.2.2.2.2).1 c
    omega
   ·exact c
  have DM:=hid (divMod_ok p r n c _ _ za us w ha hr ht htu htu0)
  rw [hV,ePk] at DM
  have vh0:0≤V/B^H:=Int.ediv_nonneg hV0 (Int.le_of_lt hPk)
  have vh:V/B^H<B^H:=Int.ediv_lt_of_lt_mul hPk (by rw [←Int.pow_add];exact hV1)
  have vl:V%B^H<B^H:=Int.emod_lt_of_pos _ hPk
  have vV:V<Nm.pw 4096:=by rw [←hV];exact (Nm.tsize_le_iff ha.2.2.2.2 4096).1 ht
  have vhp:V/B^H<Nm.pw 4096:=Int.lt_of_le_of_lt (Int.ediv_le_self _ hV0) vV
  have vlp:V%B^H<Nm.pw 4096:=by
   have h1:=Int.emod_add_mul_ediv V (B^H)
   have h2:=Int.mul_nonneg (Int.le_of_lt hPk) vh0
   exact Int.lt_of_le_of_lt (by omega) vV
  have I1:ShutN (∀(w1:World) (q:Option Addr) (os:List Int),OwnB w1 g ds→Ans w.heap.size w1 q os (V/B^H)→Pows g (B^W) (some ⟨gm,0,none⟩) K w1→
    Calls Tryz.prog 305 #[.slice (some ⟨g,o,none⟩) H cap,.slice q (List.length os) (List.length os),.slice (some ⟨gm,0,none⟩) k cp,.int .u64 B] w1 fun e w'=>e=.returned (.tuple #[])∧Spread B g o H ds (V/B^H) w1 w'):=
   ⟨fun w1 q os a1 a2 a3=>ih (by omega) (by omega) o H cap _ _ q os ds _ w1 hH.symm a1 (by omega) (by omega) hcm (a2.arg (by have:=a2.smallT vhp;omega)) (fun a ha=>by have:=a2.2.2.2.2 a ha;have:=hd.lt;omega) a2.2.2.2.1 vh (a2.tsN vhp) a3⟩
  have I2:ShutN (∀(H2:Nat) (w1:World) (q:Option Addr) (os ds1:List Int),H2=H→OwnB w1 g ds1→ds1.length=ds.length→Ans w.heap.size w1 q os (V%B^H)→Pows g (B^W) (some ⟨gm,0,none⟩) K w1→
    Calls Tryz.prog 305 #[.slice (some ⟨g,o+H,none⟩) H2 (cap - H),.slice q (List.length os) (List.length os),.slice (some ⟨gm,0,none⟩) k cp,.int .u64 B] w1 fun e w'=>e=.returned (.tuple #[])∧Spread B g (o+H) H ds1 (V%B^H) w1 w'):=
   ⟨fun H2 w1 q os ds1 a0 a1 al a2 a3=>by subst a0;exact ih (by omega) (by omega) (o+H2) H2 (cap - H2) _ _ q os ds1 _ w1 hH.symm a1 (by omega) (by omega) (by omega) (a2.arg (by have:=a2.smallT vlp;omega)) (fun a ha=>by have:=a2.2.2.2.2 a ha;have:=hd.lt;omega) a2.2.2.2.1 vl (a2.tsN vlp) a3⟩
  have FIN:ShutN (∀w1 w2 w3 w4:World,Below w.heap.size w w1→Spread B g o H ds (V/B^H) w1 w2→Only g w2 w3→Spread B g (o+H) H (put ds o (Dn.dg B H (V/B^H))) (V%B^H) w3 w4→Spread B g o (H+H) ds V w w4):=by
   refine ⟨fun w1 w2 w3 w4 b1 s1 b2 s2=>?_⟩
   have e1:=s2.1
   have hl:=Dn.dg_length B H (V/B^H)
   have hl2:=Dn.dg_length B H (V%B^H)
   have e2:=put_two ds o (Dn.dg B H (V/B^H)) (Dn.dg B H (V%B^H)) (by rw [hl,hl2];omega)
   rw [hl] at e2
   rw [e2,←Dn.dg_split hB1] at e1
   exact ⟨e1,((Only.of_below b1).trans s1.2).trans (b2.trans s2.2)⟩
  have PL:Hid ((put ds o (Dn.dg B H (V/B^H))).length=ds.length):=put_length _ _ _ (by rw [Dn.dg_length];omega)
  obtain ⟨L,HL⟩:∃L,Hid (H+H=L):=⟨_,rfl⟩
  obtain ⟨K1,HK1⟩:∃K1,Hid (k+1=K1):=⟨_,rfl⟩
  have r1:((K1:Int) == 0)=false:=by rw [beq_eq_false_iff_ne];have:=HK1.out;omega
  have r2:(K1:Int) - 1=(k:Int):=by have:=HK1.out;omega
  have r3:(L:Int)/2=(H:Int):=by have:=HL.out;omega
  have r4:(L:Int).tdiv 2=(H:Int):=by have:=HL.out;rw [Int.tdiv_eq_ediv_of_nonneg (by omega)];omega
  have hk1:(k:Int)<(K1:Int):=by have:=HK1.out;omega
  have hk18:(k:Int)≤18:=by omega
  have hH1:1≤H:=by rw [←hH];exact Nat.mul_pos (by omega) (Nat.pow_pos (by omega))
  have hHc:H≤cap:=by omega
  have hne:¬cap=H:=by omega
  have hne2:¬L=H:=by have:=HL.out;omega
  have hHL:H≤L:=by have:=HL.out;omega
  have hkc2:k≤cp:=by omega
  have hLc:L≤cap:=by have:=HL.out;omega
  have OB:=hid hd
  have HG:=hid hd.lt
  have PW:=hid hP
  rw [HL.out] at FIN
  rw [HL.out,HK1.out]
  clear ih hL hd hol hc ha hp hV hV1 ht hP hus hr htu hrb ePk htu0 vh0 vh vl vV vhp vlp e2 hkK hkc hH hBW hV0 hPk
  go_enter Tryz.func305,Tryz.ntmps305
  go_wp2_with fail
  refine DM.out.mono ?_
  rintro e w1 ⟨q1,os1,q2,os2,rfl,A1,A2,d1⟩
  have SA1:=hid A1
  have SA2:=hid A2
  have D1:=hid d1
  have OB1:=hid (OB.out.below d1 OB.out.lt)
  have PW1:=hid (PW.out.only (Only.of_below d1))
  clear A1 A2 d1 DM OB PW hcell
  have C1:=hid (I1.out w1.drew q1 os1 OB1.out (SA1.out.below (below_drew w1) (Nat.le_refl _)) (PW1.out.only (Only.of_below (below_drew w1))))
  go_upto_region 8 with fail
  go_cut [] from 57 to 65 (fun wx=>Hid (Spread B g o H ds (V/B^H) w1 wx))
  case first=>
   go_region_with (go_at_call 305;refine C1.out.mono ?_;rintro e w2 ⟨rfl,s2⟩;have F:Hid (Spread B g o H ds (V/B^H) w1 w2):=⟨s2.1,(Only.of_below (below_drew w1)).trans s2.2⟩;clear s2)
   all_goals (go_wp2_with fail;go_meet;exact F)
  case rest=>
   have SA3:Hid (Ans w.heap.size wc q2 os2 (V%B^H)):=⟨SA2.out.1.only hcut.out.2 (fun a ha=>by have:=SA2.out.2.2.2.2 a ha;have:=HG.out;omega),SA2.out.2⟩
   have PW2:=hid (PW1.out.only hcut.out.2)
   have C2:=hid (I2.out (L - H) wc.drew q2 os2 _ (by have:=HL.out;omega) hcut.out.1 PL.out (SA3.out.below (below_drew wc) (Nat.le_refl _)) (PW2.out.only (Only.of_below (below_drew wc))))
   clear C1 SA1 SA2 PW1 OB1 SA3 PW2 I1 I2
   go_upto_region 9 with fail
   go_region_with (go_at_call 305;go_must (go_fit C2.out);rintro e w3 ⟨rfl,s3⟩;have F:Hid (Spread B g o L ds V w w3):=FIN.out w1 wc wc.drew w3 D1.out hcut.out (Only.of_below (below_drew wc)) s3;clear s3)
   all_goals (go_wp2_with fail;go_end0;exact ⟨rfl,F.out⟩)
end Go.Proofs.YtbdhlfklcdegdaaGreatDoor

namespace Go.Proofs.YtbdhlfklcdegdaaGreatDoor
open Go.RowKit Go.Deep
def lets (lt ds:List Int):List Int:=ds.map (fun d=>lt.getD d.toNat 0)
theorem RowsIn.pows {base g:Nat} {b A:Int} {pm:Option Addr} {K cp:Nat} {l:List (Option Addr × List Int)} {w w':World} (h:RowsIn base b A (.slice pm K cp) l w) (hl:l.length=K) (hg:w.heap.size≤g) (hb:Below w.heap.size w w') (hA:A<Nm.pw 4096):Pows g b pm K w':=by
 intro s hs
 have he:l[s]?=some l[s]:=List.getElem?_eq_getElem (by omega)
 obtain ⟨h1,h2⟩:=h.row s _ he
 rcases h.own.2 with ⟨_,h0⟩ | ⟨gm,cp',cur,hv,_⟩
 ·omega
 ·simp only [Value.slice.injEq] at hv
  obtain ⟨rfl,hK,rfl⟩:=hv
  have hc:=h.own.cells (g:=gm) rfl s (rowV l[s]) (by rw [List.getElem?_map,he];rfl)
  rw [Go.WideShapes.add_plain,Nat.zero_add] at hc
  have ht:Nm.tsize (l[s]).2≤4096:=(Nm.tsize_le_iff h1.2.1 4096).2 (by rw [h1.2.2.2.1];exact Int.lt_of_le_of_lt h2 hA)
  refine ⟨gm,(l[s]).1,(l[s]).2,rfl,Nat.lt_of_lt_of_le (cell_lt hc) hg,?_,?_,h1.2.2.2.1,ht,fun a ha=>Nat.lt_of_lt_of_le (h1.2.2.2.2 a ha).1 hg⟩
  ·rw [hb.cell (p:=⟨gm,s,none⟩) (cell_lt hc)]
   exact hc
  ·exact (h1.arg (by have:=h1.2.2.1;omega)).below hb (Nat.le_refl _)
def Lett (g J:Nat) (ds lt:List Int) (t:Nat) (w0 wr:World):Prop:=
 ∃es,OwnB wr g es∧es.length=ds.length∧(∀i,i<t→es.getD (J+i) 0=lt.getD (ds.getD (J+i) 0).toNat 0)∧(∀i,t≤i→es.getD (J+i) 0=ds.getD (J+i) 0)∧Only g w0 wr
theorem Lett.step {g J:Nat} {ds lt:List Int} {t:Nat} {w0 wr:World} (h:Lett g J ds lt t w0 wr) (ht:J+t<ds.length) {x:Int} (hx:x=lt.getD (ds.getD (J+t) 0).toNat 0):Lett g J ds lt (t+1) w0 (wr.setCell ⟨g,J+t,none⟩ (.int .u8 x)):=by
 obtain ⟨es,h1,h2,h3,h4,h5⟩:=h
 refine ⟨es.set (J+t) x,h1.set _ _,by simpa using h2,fun i hi=>?_,fun i hi=>?_,h5.trans (Only.set _ _)⟩
 ·by_cases e:i=t
  ·subst e
   simp [List.getD,show J+i<es.length by omega,hx]
  ·have:=h3 i (by omega)
   simpa [List.getD,List.getElem?_set,show ¬t=i by omega] using this
 ·have:=h4 i (by omega)
  simpa [List.getD,List.getElem?_set,show ¬t=i by omega] using this
theorem chain' {B:Nat} {a b c:World} (h:Below B a b) (k:Below B b c):Below B a c:=h.trans k
set_option maxRecDepth 100000 in
set_option maxHeartbeats 4000000 in
theorem written_any (p:Option Addr) (n cap:Nat) (za lt:List Int) (V B:Int) (ls:ByteArray) (w:World) (ha:Arg w p n cap za) (hV:Nm.val za=V) (ht:Nm.tsize za≤4096) (h0:0<V) (h2:2≤B) (h36:B≤36) (hls:Str ls lt) (hlt:lt.length=36):
  Calls Tryz.prog 292 #[.slice p n cap,.int .u64 B,.string ls] w fun e w'=>(∃s L,e=.returned (.string s)∧V<B^L∧Str s (lets lt (Dn.strip (Dn.dg B L V))))∧Below w.heap.size w w':=by
 have hAs:ShutN (V<Nm.pw 4096):=⟨by rw [←hV];exact (Nm.tsize_le_iff ha.2.2.2.2 4096).1 ht⟩
 have HV:=hid hV
 have HA:=hid ha
 have HT:=hid ht
 have HS:=hid hls
 have hsz:ls.size=36:=by rw [hls.size,hlt]
 have GR:=hid (group_any B w h2 h36)
 clear ha hV ht hls
 go_enter Tryz.func292,Tryz.ntmps292
 go_wp2_with fail
 refine GR.out.mono ?_
 rintro e w' ⟨⟨W,P,rfl,hP,hW1,hW63,hPl⟩,rfl⟩
 have hP2:2≤P:=by
  rw [hP,show W=W - 1+1 by omega,Int.pow_succ]
  have h1:1≤B^(W - 1):=by have:0<B^(W - 1):=Int.pow_pos (by omega);omega
  have h3:=Int.mul_le_mul h1 h2 (by omega) (by omega)
  omega
 have HP:=hid hP
 have FU:=hid (fromUint_any P w' (by omega) hPl)
 have HPL:=hid hPl
 clear GR hP hPl
 go_wp2_with fail
 refine FU.out.mono ?_
 rintro e w1 ⟨r1,os1,rfl,A1,d1⟩
 have SQ:=hid (nsquares_any r1 p n cap os1 za P V _ w1 A1 hP2 HPL.out (HA.out.below d1 (Nat.le_refl _)) HV.out HT.out)
 have D1:=hid d1
 clear A1 d1 FU
 go_wp2_with fail
 refine SQ.out.mono ?_
 rintro e w2 ⟨mv,l,rfl,F2⟩
 obtain ⟨pm,cp,hmv,hcp⟩:∃pm cp,mv=.slice pm l.length cp∧l.length≤cp:=by
  rcases F2.out.1.own.2 with ⟨rfl,h0⟩ | ⟨gm,cp,cur,rfl,_,_,h1,_⟩
  ·exact ⟨none,0,by rw [h0],by omega⟩
  ·exact ⟨_,cp,rfl,h1⟩
 subst hmv
 obtain ⟨K,HK⟩:∃K,Hid (l.length=K):=⟨_,rfl⟩
 have hK18:(K:Int)≤18:=by have:=HK.out;have:=F2.out.2.2.1;omega
 obtain ⟨L,HL⟩:∃L,Hid (W*2^K=L):=⟨_,rfl⟩
 have VL:ShutN (V<B^L):=⟨by
  have h:=F2.out.2.1
  rw [HP.out,HK.out,←Int.pow_mul,HL.out] at h
  exact h⟩
 have D2:=hid (chain D1.out F2.out.2.2.2 (Nat.le_refl _))
 rw [HK.out] at F2 hcp
 rw [HK.out]
 have hL63:L≤63*262144:=by
  have h1:2^K≤2^18:=Nat.pow_le_pow_right (by omega) (by omega)
  have h2:=Nat.mul_le_mul hW63 h1
  have:=HL.out
  omega
 have q1:IntKind.i64.wrap ((W:Int)*2^K)=(L:Int):=by
  have e:(W:Int)*2^K=(L:Int):=by rw [←HL.out];simp
  rw [e,IntKind.wrap_i64]
  omega
 have mk:=make8 L (by omega) w2
 have bm:Below w2.heap.size w2 (w2.alloc (.cells (madeCells #[.int .u8 0] L) 5)):=(Below.refl _ _).alloc (Nat.le_refl _) _
 have ob:OwnB (w2.alloc (.cells (madeCells #[.int .u8 0] L) 5)) w2.heap.size (List.replicate L 0):=by rw [made_zero8];exact OwnB.alloc w2 _
 obtain ⟨w3,hw3⟩:∃w3,w2.alloc (.cells (madeCells #[.int .u8 0] L) 5)=w3:=⟨_,rfl⟩
 rw [hw3] at mk bm ob
 have D3:=hid (chain D2.out bm (Nat.le_refl _))
 have hzl:0<za.length:=by
  rcases Nat.eq_zero_or_pos za.length with c | c
  ·have:=HV.out
   rw [List.eq_nil_of_length_eq_zero c] at this
   simp [Nm.val] at this
   omega
  ·exact c
 obtain ⟨g,HG⟩:∃g,Hid (w2.heap.size=g):=⟨_,rfl⟩
 rw [HG.out] at mk ob
 have PO:=F2.out.1.pows HK.out (Nat.le_of_eq HG.out) bm hAs.out
 rw [HP.out] at PO
 have hwg:w'.heap.size≤g:=by have:=D2.out.size;have:=HG.out;omega
 have SP:=hid (spread_any B W g K cp pm h2 h36 hW1 hW63 (by rw [←HP.out];exact HPL.out) (by omega) K (Nat.le_refl _) hcp 0 L L n cap p za (List.replicate L 0) V w3 HL.out.symm ob (by simp) (Nat.le_refl _) (by omega) (HA.out.below D3.out (Nat.le_refl _)) (fun a ha=>by have:=HA.out.2.2.2.1.lt hzl a ha;omega) HV.out VL.out HT.out PO)
 have HWG:=hid hwg
 have HW63:=hid hL63
 clear PO bm ob hw3 hcp F2 SQ D1 D2 hwg hL63
 go_wp2_with fail
 refine SP.out.mono ?_
 rintro e w4 ⟨rfl,s4⟩
 obtain ⟨D,hD⟩:∃D,Dn.dg B L V=D:=⟨_,rfl⟩
 have hDl:D.length=L:=by rw [←hD];exact Dn.dg_length B L V
 have O4:Hid (OwnB w4 g D):=by
  have:=s4.1
  rw [hD] at this
  simp only [put,List.take_zero,List.nil_append,hDl,Nat.zero_add,List.drop_replicate,Nat.sub_self,List.replicate_zero,List.append_nil] at this
  exact this
 have N4:=hid s4.2
 have hB0:0<B:=by omega
 have DM:Hid (∀t,0≤D.getD t 0∧D.getD t 0<36):=by
  intro t
  by_cases c:t<D.length
  ·have e:D.getD t 0=D[t]:=by simp [List.getD,c]
   have:=Dn.dg_mem hB0 L V (D[t]) (by rw [hD];exact List.getElem_mem c)
   rw [e]
   omega
  ·rw [show D.getD t 0=0 by simp [List.getD,List.getElem?_eq_none (show D.length≤t by omega)]]
   omega
 obtain ⟨J,hJ⟩:∃J,Lead D J:=Lead.ex (by
  rw [←hD]
  apply Dn.strip_ne (B:=B)
  rw [Dn.tv_dg hB0 L V (by omega) VL.out]
  omega)
 have BT:=hid (btrim_any g L J D w4 O4.out hDl hJ)
 have FIN:ShutN (∀s,Str s (lets lt (D.drop J))→∃s' L,Ending.returned (.string s)=.returned (.string s')∧V<B^L∧Str s' (lets lt (Dn.strip (Dn.dg B L V)))):=
  ⟨fun s hs=>⟨s,L,rfl,VL.out,by rw [hD,hJ.strip];exact hs⟩⟩
 have HDL:=hid hDl
 have HJL:Hid (J<L):=by show _<_;have:=hJ.lt;omega
 have LE0:Hid (Lett g J D lt 0 w4 w4):=⟨D,O4.out,rfl,fun i hi=>by omega,fun i _=>rfl,Only.refl _ _⟩
 clear s4 hD hDl hJ SP mk q1 VL O4
 go_wp2_with fail
 refine BT.out.mono ?_
 rintro e w5 ⟨rfl,rfl⟩
 obtain ⟨M,HM⟩:∃M,Hid (L - J=M):=⟨_,rfl⟩
 rw [HM.out]
 have hM:(M:Int)≤16515072:=by have:=HM.out;have:=HW63.out;omega
 clear BT
 go_wp2_with fail
 go_loopw [11,12,36] (fun _ _ t wr=>∃j:Nat,t=.int .i64 (j:Int)∧j≤M∧Hid (Lett g J D lt j w5 wr)) (fun _ _ t _=>M - (intOf t).toNat)
 case atStart=>exact ⟨0,rfl,Nat.zero_le _,LE0.out⟩
 case round=>
  clear LE0
  obtain ⟨j,rfl,hj,I⟩:=hrel
  by_cases hlt:j<M
  ·have hji:(j:Int)<(M:Int):=by omega
   have hJj:J+j<D.length:=by have:=HDL.out;have:=HM.out;omega
   obtain ⟨es,i1,i2,i3,i4,i5⟩:=I.out
   obtain ⟨d,hd,X⟩:∃d,wr.cell? ⟨g,J+j,none⟩=some (.int .u8 d)∧Hid (d=D.getD (J+j) 0):=⟨_,i1.cell (J+j) (by omega),i4 j (Nat.le_refl _)⟩
   have hfr:=i1.free (J+j)
   have hd0:0≤d:=by rw [X.out];exact (DM.out _).1
   have hd1:d<36:=by rw [X.out];exact (DM.out _).2
   have ST:Hid (∀x,x=lt.getD d.toNat 0→Lett g J D lt (j+1) w5 (wr.setCell ⟨g,J+j,none⟩ (.int .u8 x))):=fun x hx=>I.out.step hJj (by rw [hx,X.out])
   clear i1 i2 i3 i4 i5 I hJj
   go_wp2_with fail
   go_roundw
   case rel=>exact ⟨j+1,by go_num,by omega,ST.out _ (HS.out.at _ _)⟩
   case measure=>simp [intOf];omega
  ·obtain rfl:j=M:=by omega
   obtain ⟨es,i1,i2,i3,i4,i5⟩:=I.out
   have hxl:(lets lt (D.drop J)).length=j:=by simp [lets];have:=HDL.out;have:=HM.out;omega
   have CV:=run_convert_bytes_arg (P:=Tryz.prog) wr 146 5 Tryz.underlying146 Tryz.underlying5 g J j j (lets lt (D.drop J)) hxl (fun i hi=>by
    rw [i1.cell (J+i) (by have:=HDL.out;have:=HM.out;omega),i3 i hi]
    simp [lets,List.getD,List.getElem?_eq_getElem (show J+i<D.length by have:=HDL.out;have:=HM.out;omega)]) 9 Tryz.underlying9
   have FS:=FIN.out _ (Str.of_nums (xs:=lets lt (D.drop J)) (fun x hx=>by
    obtain ⟨d,_,rfl⟩:=List.mem_map.1 hx
    exact HS.out.atb _))
   have D6:Hid (Below w'.heap.size w' wr):=chain' D3.out ((N4.out.trans i5).below HWG.out D3.out.size)
   have HFS:=hid FS
   clear i1 i2 i3 i4 i5 I hxl FS
   go_wp2_with fail
   go_ret
   exact ⟨HFS.out,D6.out⟩
end Go.Proofs.YtbdhlfklcdegdaaGreatDoor

namespace Go.Proofs.YtbdhlfklcdegdaaGreatDoor
open Go.RowKit Go.Deep
def smallL:List Int:=[48,49,50,51,52,53,54,55,56,57,97,98,99,100,101,102,103,104,105,106,107,108,109,110,111,112,113,114,115,116,117,118,119,120,121,122]
def capL:List Int:=[48,49,50,51,52,53,54,55,56,57,65,66,67,68,69,70,71,72,73,74,75,76,77,78,79,80,81,82,83,84,85,86,87,88,89,90]
def lettersOf (up:Bool):List Int:=if up then capL else smallL
inductive InIs (zs:List Int) (B:Int) (up:Bool):List Int→Int→Prop
 | big:4096<Nm.tsize zs→InIs zs B up [] 2
 | base:Nm.tsize zs≤4096→(B<2∨36<B)→InIs zs B up [] 32
 | zero:Nm.tsize zs=0→2≤B→B≤36→InIs zs B up [48] 0
 | ok (L:Nat):0<Nm.tsize zs→Nm.tsize zs≤4096→2≤B→B≤36→Nm.val zs<B^L→InIs zs B up (lets (lettersOf up) (Dn.strip (Dn.dg B L (Nm.val zs)))) 0
theorem blen_big {zs:List Int} (hl:Nm.Limbs zs):∃L:Nat,blen zs=(L:Int)∧(262144<(L:Int)↔4096<Nm.tsize zs)∧((L:Int)=0↔Nm.tsize zs=0):=by
 obtain ⟨L,l1,l2,l3,l4⟩:=blen_is zs hl
 refine ⟨L,l1,?_,?_⟩
 ·by_cases h:0<Nm.tsize zs
  ·have:=l4 h
   omega
  ·omega
 ·by_cases h:0<Nm.tsize zs
  ·have:=l4 h
   omega
  ·omega
set_option maxRecDepth 100000 in
set_option maxHeartbeats 4000000 in
theorem inBase_any (p:Option Addr) (n cap:Nat) (za:List Int) (B:Int) (up:Bool) (w:World) (ha:Arg w p n cap za) (hB0:-9223372036854775808≤B) (hB1:B≤9223372036854775807):
  Calls Tryz.prog 277 #[.slice p n cap,.int .i64 B,.bool up] w fun e w'=>∃s xs E,e=.returned (.tuple #[.string s,.int .i64 E])∧Str s xs∧InIs za B up xs E∧Below w.heap.size w w':=by
 obtain ⟨L,hL,hbig,hzero⟩:=blen_big ha.2.2.2.2
 have BL:=hid (bitLen_isT L p n cap za w ha hL)
 have Z:Hid (Str ⟨#[]⟩ []):=rfl
 by_cases h1:4096<Nm.tsize za
 ·have hLi:(262144:Int)<(L:Int):=hbig.2 h1
  have F:Hid (InIs za B up [] 2):=.big h1
  clear ha hL hbig hzero h1
  go_enter Tryz.func277,Tryz.ntmps277
  go_wp2_with fail
  refine BL.out.mono ?_
  rintro e w' ⟨rfl,rfl⟩
  go_wp2_with fail
  go_ret2
  exact ⟨_,_,_,rfl,Z.out,F.out,Below.refl _ _⟩
 have hLi:(L:Int)≤262144:=by have:=hbig.1;omega
 by_cases h2:B<2∨36<B
 ·have F:Hid (InIs za B up [] 32):=.base (by omega) h2
  clear ha hL hbig hzero h1
  rcases h2 with h2 | h2
  ·go_enter Tryz.func277,Tryz.ntmps277
   go_wp2_with fail
   refine BL.out.mono ?_
   rintro e w' ⟨rfl,rfl⟩
   go_wp2_with fail
   go_ret2
   exact ⟨_,_,_,rfl,Z.out,F.out,Below.refl _ _⟩
  ·go_enter Tryz.func277,Tryz.ntmps277
   go_wp2_with fail
   refine BL.out.mono ?_
   rintro e w' ⟨rfl,rfl⟩
   go_wp2_with fail
   go_ret2
   exact ⟨_,_,_,rfl,Z.out,F.out,Below.refl _ _⟩
 have h3:2≤B:=by omega
 have h4:B≤36:=by omega
 by_cases h5:Nm.tsize za=0
 ·have F:Hid (InIs za B up [48] 0):=.zero h5 h3 h4
  have Z2:Hid (Str ⟨#[48]⟩ [48]):=rfl
  have hL0:(L:Int)=0:=hzero.2 h5
  obtain rfl:L=0:=by omega
  clear ha hL hbig hzero h1 h2 h5
  go_enter Tryz.func277,Tryz.ntmps277
  go_wp2_with fail
  refine BL.out.mono ?_
  rintro e w' ⟨rfl,rfl⟩
  go_wp2_with fail
  refine BL.out.mono ?_
  rintro e w' ⟨rfl,rfl⟩
  go_wp2_with fail
  go_ret2
  exact ⟨_,_,_,rfl,Z2.out,F.out,Below.refl _ _⟩
 ·have hL0:((L:Int) == 0)=false:=by rw [beq_eq_false_iff_ne];intro c;exact h5 (hzero.1 c)
  have hv:0<Nm.val za:=by
   have e1:=Nm.tsize_zero_iff ha.2.2.2.2
   have e2:=(Nm.val_bd za ha.2.2.2.2).1
   omega
  have F:Hid (∀s L,Nm.val za<B^L→Str s (lets (lettersOf up) (Dn.strip (Dn.dg B L (Nm.val za))))→∃s' xs E,Ending.returned (.tuple #[.string s,.int .i64 0])=.returned (.tuple #[.string s',.int .i64 E])∧Str s' xs∧InIs za B up xs E):=fun s L hl hs=>⟨s,_,0,rfl,hs,.ok L (by omega) (by omega) h3 h4 hl⟩
  have WR:Hid (∀ls,Str ls (lettersOf up)→Calls Tryz.prog 292 #[.slice p n cap,.int .u64 B,.string ls] w fun e w'=>(∃s L,e=.returned (.string s)∧Nm.val za<B^L∧Str s (lets (lettersOf up) (Dn.strip (Dn.dg B L (Nm.val za)))))∧Below w.heap.size w w'):=
   fun ls hls=>written_any p n cap za (lettersOf up) _ B ls w ha rfl (by omega) hv h3 h4 hls (by cases up <;> rfl)
  clear ha hL hbig hzero h1 h2 h5 hv
  cases up with
  | true=>
   have W2:=hid (WR.out ⟨#[48,49,50,51,52,53,54,55,56,57,65,66,67,68,69,70,71,72,73,74,75,76,77,78,79,80,81,82,83,84,85,86,87,88,89,90]⟩ rfl)
   go_enter Tryz.func277,Tryz.ntmps277
   go_wp2_with fail
   refine BL.out.mono ?_
   rintro e w' ⟨rfl,rfl⟩
   go_wp2_with fail
   refine BL.out.mono ?_
   rintro e w' ⟨rfl,rfl⟩
   go_wp2_with fail
   refine W2.out.mono ?_
   rintro e w1 ⟨⟨s,M,rfl,hM,hs⟩,d1⟩
   have G:=hid (F.out s M hM hs)
   have D:=hid d1
   clear hM hs d1
   go_wp2_with fail
   go_ret2
   obtain ⟨s',xs,E,k1,k2,k3⟩:=G.out
   exact ⟨s',xs,E,k1,k2,k3,D.out⟩
  | false=>
   have W2:=hid (WR.out ⟨#[48,49,50,51,52,53,54,55,56,57,97,98,99,100,101,102,103,104,105,106,107,108,109,110,111,112,113,114,115,116,117,118,119,120,121,122]⟩ rfl)
   go_enter Tryz.func277,Tryz.ntmps277
   go_wp2_with fail
   refine BL.out.mono ?_
   rintro e w' ⟨rfl,rfl⟩
   go_wp2_with fail
   refine BL.out.mono ?_
   rintro e w' ⟨rfl,rfl⟩
   go_wp2_with fail
   refine W2.out.mono ?_
   rintro e w1 ⟨⟨s,M,rfl,hM,hs⟩,d1⟩
   have G:=hid (F.out s M hM hs)
   have D:=hid d1
   clear hM hs d1
   go_wp2_with fail
   go_ret2
   obtain ⟨s',xs,E,k1,k2,k3⟩:=G.out
   exact ⟨s',xs,E,k1,k2,k3,D.out⟩
end Go.Proofs.YtbdhlfklcdegdaaGreatDoor

namespace Go.Proofs.YtbdhlfklcdegdaaGreatDoor
open Go.RowKit Go.Deep
theorem cap_facts:∀k:Fin 36,wv (capL.getD k.val 0)=(k.val:Int)∧¬(97≤capL.getD k.val 0∧capL.getD k.val 0≤122)∧(capL.getD k.val 0=48→k.val=0):=by decide
theorem small_facts:∀k:Fin 36,wv (smallL.getD k.val 0)=(k.val:Int)∧¬(65≤smallL.getD k.val 0∧smallL.getD k.val 0≤90)∧(smallL.getD k.val 0=48→k.val=0):=by decide
theorem letter_facts (up:Bool) (d:Int) (h0:0≤d) (h1:d<36):wv ((lettersOf up).getD d.toNat 0)=d∧(up=true→¬(97≤(lettersOf up).getD d.toNat 0∧(lettersOf up).getD d.toNat 0≤122))∧(up=false→¬(65≤(lettersOf up).getD d.toNat 0∧(lettersOf up).getD d.toNat 0≤90))∧((lettersOf up).getD d.toNat 0=48→d=0):=by
 cases up with
 | true=>
  have k:=cap_facts ⟨d.toNat,by omega⟩
  simp only at k
  rw [show lettersOf true=capL from rfl]
  exact ⟨by rw [k.1];omega,fun _=>k.2.1,fun h=>absurd h (by decide),fun h=>by have:=k.2.2 h;omega⟩
 | false=>
  have k:=small_facts ⟨d.toNat,by omega⟩
  simp only at k
  rw [show lettersOf false=smallL from rfl]
  exact ⟨by rw [k.1];omega,fun h=>absurd h (by decide),fun _=>k.2.1,fun h=>by have:=k.2.2 h;omega⟩
structure Good (zs:List Int) (B:Int) (up:Bool) (xs:List Int):Prop where
 ne:xs≠[]
 len:xs.length≤262144
 case_:∀i,i<xs.length→(up=true→¬(97≤xs.getD i 0∧xs.getD i 0≤122))∧(up=false→¬(65≤xs.getD i 0∧xs.getD i 0≤90))
 dig:∀i,i<xs.length→wv (xs.getD i 0)<B
 val:Dn.tv B 0 (xs.map wv)=Nm.val zs
 head:0<Nm.tsize zs→xs.getD 0 0≠48
 zero:Nm.tsize zs=0→xs=[48]
theorem map_wv_lets {up:Bool} {B:Int} (h36:B≤36) (ds:List Int) (hd:∀d∈ds,0≤d∧d<B):(lets (lettersOf up) ds).map wv=ds:=by
 unfold lets
 rw [List.map_map]
 conv=>rhs;rw [←List.map_id ds]
 apply List.map_congr_left
 intro d h
 have:=hd d h
 exact (letter_facts up d this.1 (by omega)).1
theorem good_ok {zs:List Int} {B:Int} {up:Bool} {L:Nat} (hz:Nm.Limbs zs) (h0:0<Nm.tsize zs) (h1:Nm.tsize zs≤4096) (h2:2≤B) (h36:B≤36) (hL:Nm.val zs<B^L):Good zs B up (lets (lettersOf up) (Dn.strip (Dn.dg B L (Nm.val zs)))):=by
 have hB:0<B:=by omega
 have hv0:=(Nm.val_bd zs hz).1
 have hvz:Nm.val zs≠0:=fun c=>by have:=(Nm.tsize_zero_iff hz).2 c;omega
 have hL2:Nm.val zs<B^262144:=by
  have e1:=(Nm.tsize_le_iff hz 4096).1 h1
  rw [Nm.pw_two 4096,show 64*4096=262144 from rfl] at e1
  exact Int.lt_of_lt_of_le e1 (Pn.pow_base (by omega) h2 262144)
 rw [Dn.strip_dg hB hv0 hL hL2]
 obtain ⟨ds,hds⟩:∃ds,Dn.strip (Dn.dg B 262144 (Nm.val zs))=ds:=⟨_,rfl⟩
 have hm:∀d∈ds,0≤d∧d<B:=fun d hd=>by
  rw [←hds] at hd
  exact Dn.dg_mem hB _ _ d (Dn.strip_mem hd)
 have htv:Dn.tv B 0 ds=Nm.val zs:=by rw [←hds,Dn.tv_strip,Dn.tv_dg hB _ _ hv0 hL2]
 have hlen:ds.length≤262144:=by
  have:=(List.dropWhile_sublist (fun d:Int=>decide (d=0)) (l:=Dn.dg B 262144 (Nm.val zs))).length_le
  rw [Dn.dg_length] at this
  rw [←hds]
  exact this
 have hne:ds≠[]:=fun c=>by rw [c] at htv;exact hvz htv.symm
 rw [hds]
 have hg:∀i,i<ds.length→(lets (lettersOf up) ds).getD i 0=(lettersOf up).getD (ds.getD i 0).toNat 0:=fun i hi=>by simp [lets,List.getD,hi]
 have hl:(lets (lettersOf up) ds).length=ds.length:=by simp [lets]
 have hat:∀i,i<ds.length→0≤ds.getD i 0∧ds.getD i 0<B:=fun i hi=>by
  have e:ds.getD i 0=ds[i]:=by simp [List.getD,hi]
  rw [e]
  exact hm _ (List.getElem_mem hi)
 refine ⟨fun c=>hne (by simpa [lets] using c),by rw [hl];exact hlen,fun i hi=>?_,fun i hi=>?_,by rw [map_wv_lets h36 ds hm,htv],fun _=>?_,fun c=>by omega⟩
 ·rw [hl] at hi
  rw [hg i hi]
  have:=hat i hi
  have f:=letter_facts up (ds.getD i 0) this.1 (by omega)
  exact ⟨f.2.1,f.2.2.1⟩
 ·rw [hl] at hi
  rw [hg i hi]
  have:=hat i hi
  rw [(letter_facts up (ds.getD i 0) this.1 (by omega)).1]
  exact this.2
 ·have hi:0<ds.length:=by
   rcases Nat.eq_zero_or_pos ds.length with c | c
   ·exact absurd (List.eq_nil_of_length_eq_zero c) hne
   ·exact c
  rw [hg 0 hi]
  have hb:=hat 0 hi
  intro c
  have:=(letter_facts up (ds.getD 0 0) hb.1 (by omega)).2.2.2 c
  obtain ⟨d,rest,hdr⟩:∃d rest,ds=d::rest:=List.exists_cons_of_ne_nil hne
  have k:=Dn.strip_head (ds:=Dn.dg B 262144 (Nm.val zs)) (by rw [hds];exact hdr)
  rw [hdr] at this
  exact k (by simpa using this)
end Go.Proofs.YtbdhlfklcdegdaaGreatDoor

namespace Go.Proofs.YtbdhlfklcdegdaaGreatDoor
theorem InIs.one {zs:List Int} {B:Int} {up:Bool} {xs ys:List Int} {E F:Int} (hz:Nm.Limbs zs) (h:InIs zs B up xs E) (k:InIs zs B up ys F):xs=ys∧E=F:=by
 cases h with
 | big h1=>cases k <;> first | exact ⟨rfl,rfl⟩ | (exfalso;omega)
 | base h1 h2=>cases k <;> first | exact ⟨rfl,rfl⟩ | (exfalso;omega)
 | zero h1 h2 h3=>cases k <;> first | exact ⟨rfl,rfl⟩ | (exfalso;omega)
 | ok L h1 h2 h3 h4 h5=>
  cases k with
  | big k1=>exfalso;omega
  | base k1 k2=>exfalso;omega
  | zero k1 k2 k3=>exfalso;omega
  | ok M k1 k2 k3 k4 k5=>exact ⟨by rw [Dn.strip_dg (by omega) (Nm.val_bd zs hz).1 h5 k5],rfl⟩
end Go.Proofs.YtbdhlfklcdegdaaGreatDoor

namespace Go.Proofs.YtbdhlfklcdegdaaGreatDoor
open Go Go.RowKit Go.Deep
def nearI (A B:Int):Int:=if 2*(A%B)<B∨(2*(A%B)=B∧A/B%2=0) then A/B else A/B+1
theorem split_facts {A B P:Int} (hA:0≤A) (hAP:A<P) (hB:0<B):A/B*B+A%B=A∧A/B<P∧A%B<P∧A/B*B<P∧0≤A%B∧A%B<B∧0≤A/B∧(0<A%B→A/B+1<P):=by
 have ed:=Int.emod_add_mul_ediv A B
 have e0:=Int.emod_nonneg A (show B≠0 by omega)
 have e1:=Int.emod_lt_of_pos A hB
 have e2:0≤A/B:=Int.ediv_nonneg hA (by omega)
 have e3:A/B*1≤A/B*B:=Int.mul_le_mul_of_nonneg_left (by omega) e2
 rw [Int.mul_comm] at ed
 refine ⟨by omega,by omega,by omega,by omega,e0,e1,e2,fun h=>by omega⟩
theorem Ans.argS {B:Nat} {w:World} {p:Option Addr} {ys:List Int} {n:Int} (h:Ans B w p ys n) (hn:n<Nm.pw 4096):Arg w p ys.length ys.length ys:=
 h.arg (by have:=h.small hn;omega)
theorem Ans.ts {B:Nat} {w:World} {p:Option Addr} {ys:List Int} {n:Int} (h:Ans B w p ys n) (hn:n<Nm.pw 4096):Nm.tsize ys≤4096:=by
 rw [h.2.2.1]
 exact h.small hn
end Go.Proofs.YtbdhlfklcdegdaaGreatDoor
