/-
  Squeezed.
-/
import Derived.Test.YtbdhlfklcdegdaaGreatDoorWBJ
import Derived.Test.YtbdhlfklcdegdaaGreatDoorWBF
namespace Go.Proofs.YtbdhlfklcdegdaaGreatDoor
open Go.RowKit Go.Deep
theorem rdm_ok (p q:Option Addr) (n cap m cap':Nat) (zs ys:List Int) (w:World) (ha:Arg w p n cap zs) (hb:Arg w q m cap' ys) (tz:Nm.tsize zs≤4096) (ty:Nm.tsize ys≤4096) (hy:0<Nm.tsize ys):
  Calls Tryz.prog 288 #[.slice p n cap,.slice q m cap'] w fun e w'=>Splits (Nm.val zs) (Nm.val ys) w e w':=by
 have hn:=ha.2.1
 have hn':=ha.2.2.1
 have hm:=hb.2.1
 have hm':=hb.2.2.1
 have L1:=hid (top_any p n cap zs w ha.1 (by omega) ha.2.2.2.1)
 have L2:=hid (top_any q m cap' ys w hb.1 (by omega) hb.2.2.2.1)
 have DV:=hid (refDivide_any p q n cap m cap' zs ys w ha hb tz ty hy)
 have h1':(Nm.tsize zs:Int)≤4096:=by omega
 have h2':(Nm.tsize ys:Int)≤4096:=by omega
 have h3':((Nm.tsize ys:Int) == 0)=false:=by rw [beq_eq_false_iff_ne];omega
 clear ha hb tz ty hy
 go_enter Tryz.func288,Tryz.ntmps288
 go_wp2_with fail
 refine L1.out.mono ?_
 rintro e w' ⟨rfl,rfl⟩
 go_wp2_with fail
 refine L2.out.mono ?_
 rintro e w' ⟨rfl,rfl⟩
 go_wp2_with fail
 refine L2.out.mono ?_
 rintro e w' ⟨rfl,rfl⟩
 go_wp2_with fail
 refine DV.out.mono ?_
 rintro e w1 ⟨r1,os,r2,rs,rfl,A1,A2,hb⟩
 have F:Hid (Splits (Nm.val zs) (Nm.val ys) w' (.returned (.tuple #[.slice r1 (List.length os) (List.length os),.slice r2 (List.length rs) (List.length rs),.int .i64 0])) w1):=⟨r1,os,r2,rs,rfl,A1,A2,hb⟩
 clear A1 A2 hb DV
 go_wp2_with fail
 go_ret3
 exact F.out
theorem odd_low {os:List Int}:os.getD 0 0%2=Nm.val os%2:=by
 cases os with
 | nil=>rfl
 | cons z zs=>simp only [List.getD_cons_zero,Nm.val];omega
def NearEnd (A B Q:Int) (w:World) (s1:Option Addr) (os:List Int):Prop:=
 ∀(w3:World),Below w.heap.size w w3→Ans w.heap.size w3 s1 os Q→nearI A B=Q+1→
  Calls Tryz.prog 291 #[.slice s1 (List.length os) (List.length os),.slice (some ⟨w3.heap.size,0,none⟩) 1 1] (w3.alloc (.cells #[.int .u64 1] 24)) fun e w'=>∃r us,e=.returned (.slice r (List.length us) (List.length us))∧Ans w.heap.size w' r us (nearI A B)∧Below w.heap.size w w'
theorem near_end {A B Q:Int} {w:World} {s1:Option Addr} {os:List Int} (hQ:Q<Nm.pw 4096):NearEnd A B Q w s1 os:=by
 intro w3 hb ha hn
 have hb4:Below w3.heap.size w3 (w3.alloc (.cells #[.int .u64 1] 24)):=(Below.refl _ _).alloc (Nat.le_refl _) _
 have A5:Arg (w3.alloc (.cells #[.int .u64 1] 24)) (some ⟨w3.heap.size,0,none⟩) 1 1 [1]:=⟨rfl,Nat.le_refl _,by omega,(Own.alloc w3 [1]).lies,limb_one (by omega)⟩
 have hA:=ha.below hb4 (Nat.le_refl _)
 have hs:=ha.small hQ
 have fin:∀(e:Ending) (w':World),(∃r us,e=.returned (.slice r (List.length us) (List.length us))∧Ans (w3.alloc (.cells #[.int .u64 1] 24)).heap.size w' r us (Nm.val os+Nm.val [1])∧Below (w3.alloc (.cells #[.int .u64 1] 24)).heap.size (w3.alloc (.cells #[.int .u64 1] 24)) w')→
   ∃r us,e=.returned (.slice r (List.length us) (List.length us))∧Ans w.heap.size w' r us (nearI A B)∧Below w.heap.size w w':=by
  rintro e w' ⟨r,us,rfl,h1,h2⟩
  rw [hA.2.2.2.1,show Nm.val [1]=1 by simp [Nm.val],←hn] at h1
  have c4:=chain hb hb4 (Nat.le_refl _)
  exact ⟨r,us,rfl,h1.up c4.size,chain c4 h2 (Nat.le_refl _)⟩
 by_cases h0:1≤os.length
 ·exact (refPlus_any s1 _ os.length os.length 1 1 os.length os [1] _ (hA.argS hQ) A5 (Nat.le_refl _) h0 (.inl ⟨rfl,h0⟩) (by omega) (by omega)).mono fin
 ·exact (refPlus_any s1 _ os.length os.length 1 1 1 os [1] _ (hA.argS hQ) A5 (by omega) (Nat.le_refl _) (.inr ⟨rfl,by omega⟩) (by omega) (by omega)).mono fin
set_option maxRecDepth 100000 in
set_option maxHeartbeats 4000000 in
theorem rnear_ok (p q:Option Addr) (n cap m cap':Nat) (za zb:List Int) (w:World) (ha:Arg w p n cap za) (hb:Arg w q m cap' zb) (tz:Nm.tsize za≤4096) (ty:Nm.tsize zb≤4096) (hy:0<Nm.tsize zb):
  Calls Tryz.prog 273 #[.slice p n cap,.slice q m cap'] w fun e w'=>∃r os,e=.returned (.tuple #[.slice r (List.length os) (List.length os),.int .i64 0])∧Ans w.heap.size w' r os (nearI (Nm.val za) (Nm.val zb))∧Below w.heap.size w w':=by
 have va:=(Nm.val_bd za ha.2.2.2.2).1
 have vb:0<Nm.val zb:=by
  have h1:=Nm.tsize_zero_iff hb.2.2.2.2
  have h2:=(Nm.val_bd zb hb.2.2.2.2).1
  omega
 have hs:Nm.val za<Nm.pw 4096:=(Nm.tsize_le_iff ha.2.2.2.2 4096).1 tz
 have SF:=hid (split_facts va hs vb)
 have DM:=hid (rdm_ok p q n cap m cap' za zb w ha hb tz ty hy)
 have HB:=hid hb
 obtain ⟨A,hA⟩:∃A,Nm.val za=A:=⟨_,rfl⟩
 obtain ⟨B,hB⟩:∃B,Nm.val zb=B:=⟨_,rfl⟩
 rw [hA,hB] at SF DM
 have HVB:=hid hB
 rw [hA,hB]
 clear va vb hs ha hb tz ty hy hA hB
 obtain ⟨Q,hQ⟩:∃Q,A/B=Q:=⟨_,rfl⟩
 obtain ⟨R,hR⟩:∃R,A%B=R:=⟨_,rfl⟩
 simp only [Splits,hQ,hR] at DM
 rw [hQ,hR] at SF
 have NI:Hid (nearI A B=if 2*R<B∨(2*R=B∧Q%2=0) then Q else Q+1):=by show _=_;rw [nearI,hQ,hR]
 clear hQ hR
 go_enter Tryz.func273,Tryz.ntmps273
 go_wp2_with fail
 refine DM.out.mono ?_
 rintro e w1 ⟨s1,os,s2,rs,rfl,B1,B2,hb1⟩
 have HB1:=hid B1
 have HB2:=hid B2
 have D1:=hid hb1
 have HBB:=hid (HB.out.below hb1 (Nat.le_refl _))
 have hrl:Hid (rs.length≤4096):=B2.small SF.out.2.2.1
 clear B1 B2 hb1 DM
 go_wp2_with fail
 refine (doubled_any s2 rs.length rs.length rs 0 _ rfl (by have:=hrl.out;omega) HB2.out.1 HB2.out.2.1 (by omega) (by omega)).mono ?_
 rintro e w2 ⟨ds,rfl,K⟩
 have AD:Hid (Arg w2 (some ⟨w1.heap.size,0,none⟩) (rs.length+1) (rs.length+1) ds):=⟨K.out.2.1,Nat.le_refl _,by have:=hrl.out;omega,K.out.1.lies,K.out.2.2.1⟩
 have VD:Hid (Nm.val ds=2*R):=by show _=_;rw [K.out.2.2.2.1,HB2.out.2.2.2.1];omega
 have D2:=hid (chain D1.out K.out.2.2.2.2 (Nat.le_refl _))
 have HB1':=hid (HB1.out.below K.out.2.2.2.2 (Nat.le_refl _))
 have HBB':=hid (HBB.out.below K.out.2.2.2.2 (Nat.le_refl _))
 clear K HB1 HB2 D1 HBB
 obtain ⟨c,HC⟩:∃c,Hid (cmpI (2*R) B=c):=⟨_,rfl⟩
 go_wp2_with fail
 refine (order_is c _ q _ _ m cap' ds zb _ AD.out HBB'.out (by rw [VD.out,HVB.out];exact HC.out)).mono ?_
 rintro e w3 ⟨rfl,hb3⟩
 have HB1:=hid (HB1'.out.below hb3 (Nat.le_refl _))
 have D3:=hid (chain D2.out hb3 (Nat.le_refl _))
 clear hb3 HB1' D2 AD VD HBB'
 have NE:=hid (near_end (A:=A) (B:=B) (w:=w) (s1:=s1) (os:=os) SF.out.2.1)
 have fin:nearI A B=Q→∃r os',Ending.returned (.tuple #[.slice s1 (List.length os) (List.length os),.int .i64 0])=.returned (.tuple #[.slice r (List.length os') (List.length os'),.int .i64 0])∧Ans w.heap.size w3 r os' (nearI A B)∧Below w.heap.size w w3:=
  fun e=>⟨s1,os,rfl,by rw [e];exact HB1.out,D3.out⟩
 have FIN:=hid fin
 have OD:=hid (odd_low (os:=os))
 rw [HB1.out.2.2.2.1] at OD
 clear fin
 by_cases h0:os.length=0
 ·have hQ0:Q=0:=by
   have h1:=HB1.out.2.2.2.1
   rw [List.eq_nil_of_length_eq_zero h0] at h1
   simp [Nm.val] at h1
   omega
  have hl0:¬(0:Int)<(os.length:Int):=by omega
  have HQ0:=hid hQ0
  clear h0 hQ0
  rcases (show 2*R<B∨2*R=B∨B<2*R by omega) with h | h | h
  ·have hc:c=-1:=by rw [←HC.out];exact cmpI_lt h
   have E:Hid (nearI A B=Q):=by show _=_;rw [NI.out,if_pos (.inl h)]
   subst hc
   clear h
   go_wp2_with fail
   go_ret2
   exact FIN.out E.out
  ·have hc:c=0:=by rw [←HC.out];exact cmpI_eq h
   have E:Hid (nearI A B=Q):=by show _=_;rw [NI.out,if_pos (.inr ⟨h,by rw [HQ0.out];rfl⟩)]
   subst hc
   clear h
   go_wp2_with fail
   go_ret2
   exact FIN.out E.out
  ·have hc:c=1:=by rw [←HC.out];exact cmpI_gt h
   have E:Hid (nearI A B=Q+1):=by show _=_;rw [NI.out,if_neg (by omega)]
   subst hc
   clear h
   have PL:=hid (NE.out w3 D3.out HB1.out E.out)
   go_wp2_with fail
   refine PL.out.mono ?_
   rintro e w5 ⟨t,us,rfl,B5,hb5⟩
   have HB5:=hid B5
   have D5:=hid hb5
   clear B5 hb5
   go_wp2_with fail
   go_ret2
   exact ⟨t,us,rfl,HB5.out,D5.out⟩
 ·have hl0:(0:Int)<(os.length:Int):=by omega
  obtain ⟨b,off,hp,hbw,HC1⟩:=HB1.out.1.at (by omega)
  subst hp
  obtain ⟨x,hx,X⟩:∃x,w3.cell? ⟨b,off,none⟩=some (.int .u64 x)∧Hid (x=os.getD 0 0):=⟨_,HC1.out 0 (by omega),rfl⟩
  rw [←X.out] at OD
  have hx0:=HB1.out.2.1.at 0
  rw [←X.out] at hx0
  obtain ⟨hx0,hx1⟩:=hx0
  clear h0
  rcases (show 2*R<B∨(2*R=B∧Q%2=0)∨(2*R=B∧Q%2=1)∨B<2*R by omega) with h | h | h | h
  ·have hc:c=-1:=by rw [←HC.out];exact cmpI_lt h
   have E:Hid (nearI A B=Q):=by show _=_;rw [NI.out,if_pos (.inl h)]
   subst hc
   clear h
   go_wp2_with fail
   go_ret2
   exact FIN.out E.out
  ·have hc:c=0:=by rw [←HC.out];exact cmpI_eq h.1
   have E:Hid (nearI A B=Q):=by show _=_;rw [NI.out,if_pos (.inr h)]
   have hm2:x%2=0:=OD.out.trans h.2
   subst hc
   clear h
   go_wp2_with fail
   go_ret2
   exact FIN.out E.out
  ·have hc:c=0:=by rw [←HC.out];exact cmpI_eq h.1
   have E:Hid (nearI A B=Q+1):=by show _=_;rw [NI.out,if_neg (by omega)]
   have hm2:x%2=1:=OD.out.trans h.2
   subst hc
   clear h
   have PL:=hid (NE.out w3 D3.out HB1.out E.out)
   go_wp2_with fail
   refine PL.out.mono ?_
   rintro e w5 ⟨t,us,rfl,B5,hb5⟩
   have HB5:=hid B5
   have D5:=hid hb5
   clear B5 hb5
   go_wp2_with fail
   go_ret2
   exact ⟨t,us,rfl,HB5.out,D5.out⟩
  ·have hc:c=1:=by rw [←HC.out];exact cmpI_gt h
   have E:Hid (nearI A B=Q+1):=by show _=_;rw [NI.out,if_neg (by omega)]
   subst hc
   clear h
   have PL:=hid (NE.out w3 D3.out HB1.out E.out)
   go_wp2_with fail
   refine PL.out.mono ?_
   rintro e w5 ⟨t,us,rfl,B5,hb5⟩
   have HB5:=hid B5
   have D5:=hid hb5
   clear B5 hb5
   go_wp2_with fail
   go_ret2
   exact ⟨t,us,rfl,HB5.out,D5.out⟩
end Go.Proofs.YtbdhlfklcdegdaaGreatDoor
