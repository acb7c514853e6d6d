/-
  Texts put together: QRef5, QRef6A, QTimes, QRef6.
-/
import Derived.Test.YtbdhlfklcdegdaaGreatDoorWBI
import Derived.Test.YtbdhlfklcdegdaaGreatDoorWBF
import Derived.OwnWalk
import Derived.Deep.LoopGhost
import Derived.Test.YtbdhlfklcdegdaaGreatDoorWAL
namespace Go.Proofs.YtbdhlfklcdegdaaGreatDoor
open Go.RowKit Go.Deep
theorem Own.ans {B g:Nat} {w:World} {zs:List Int} (h:Own w g (Nm.trim zs)) (hz:Nm.Limbs zs) (hB:B≤g):Ans B w (some ⟨g,0,none⟩) (Nm.trim zs) (Nm.val zs):=
 ⟨h.lies,hz.trim,by rw [Nm.trim_trim,Nm.trim_length],Nm.val_trim zs,fun a ha=>by cases ha;exact hB⟩
def Parts (A B:Int) (w:World) (e:Ending) (w':World):Prop:=
 ∃r1 os r2 rs,e=.returned (.tuple #[.slice r1 (List.length os) (List.length os),.slice r2 (List.length rs) (List.length rs)])∧Ans w.heap.size w' r1 os (A/B)∧Ans w.heap.size w' r2 rs (A%B)∧Below w.heap.size w w'
structure Moved (Y:Nat) (b:Int) (gm g:Nat) (w:World):Prop where
 at':∀s,s<64→∃gs cs ms,w.cell? ⟨gm,s,none⟩=some (.slice (some ⟨gs,0,none⟩) (Y+1) cs)∧Lies w (some ⟨gs,0,none⟩) ms∧ms.length=Y+1∧Nm.Limbs ms∧Nm.val ms=b*2^s∧gs<g
 lt:gm<g
theorem Moved.lift {Y:Nat} {b:Int} {gm g g':Nat} {w w':World} (h:Moved Y b gm g w) (hb:Below g w w') (hg:g≤g'):Moved Y b gm g' w':=by
 refine ⟨fun s hs=>?_,by have:=h.lt;omega⟩
 obtain ⟨gs,cs,ms,h1,h2,h3,h4,h5,h6⟩:=h.at' s hs
 exact ⟨gs,cs,ms,by rw [hb.cell (p:=⟨gm,s,none⟩) h.lt];exact h1,h2.low hb (fun a ha=>by cases ha;exact h6),h3,h4,h5,by omega⟩
theorem moved_of {base Y:Nat} {b:Int} {mv:Value} {l:List (Nat × Nat)} {w:World} (hb0:0≤b) (hb:b<Nm.pw Y) (hl:l.length=64) (ho:w.ownsRow base 50 1 mv 64 (l.map (hdr Y))) (hm:∀t e,l[t]?=some e→Mv Y (b*2^t) w e.1):
  ∃gm cp,mv=.slice (some ⟨gm,0,none⟩) 64 cp∧Moved Y b gm w.heap.size w:=by
 rcases ho.2 with ⟨_,h⟩ | ⟨gm,cp,cur,rfl,_,hcur,_,_,_,_⟩
 ·omega
 ·refine ⟨gm,cp,rfl,fun s hs=>?_,?_⟩
  ·have hs':s<l.length:=by omega
   have he:l[s]?=some l[s]:=List.getElem?_eq_getElem hs'
   obtain ⟨ms,m1,m2,m3,m4⟩:=(hm s _ he).lies (qtwo_lt hb hb0 (by omega))
   refine ⟨(l[s]).1,(l[s]).2,ms,?_,m1,m2,m3,m4,(hm s _ he).lt⟩
   have:=ho.cells (g:=gm) rfl s (hdr Y l[s]) (by rw [List.getElem?_map,he];rfl)
   rw [Go.WideShapes.add_plain,Nat.zero_add] at this
   exact this
  ·rcases Nat.lt_or_ge gm w.heap.size with h | h
   ·exact h
   ·rw [Array.getElem?_eq_none h] at hcur
    exact absurd hcur (by simp)
theorem part_take {rs:List Int} {R t M:Nat} (h:t+M≤R):Qd.part (rs.take R) t M=Qd.part rs t M:=by
 rw [Qd.part,Qd.part,List.drop_take,List.take_take,Nat.min_eq_left (by omega)]
theorem holds_iff {rs:List Int} (hr:Nm.Limbs rs) {t M:Nat} (hl:t+M≤rs.length) (hv:Nm.val rs<Nm.pw (t+M)) (V:Int):V≤Nm.val (Qd.part rs t M)↔Nm.pw t*V≤Nm.val rs:=by
 have h1:=Qd.part_val hr hl hv
 have h2:=Nm.val_bd _ (hr.take t)
 rw [List.length_take,Nat.min_eq_left (by omega)] at h2
 have hp:=Nm.pw_pos t
 constructor
 ·intro h
  have:=Int.mul_le_mul_of_nonneg_left h (show 0≤Nm.pw t by omega)
  omega
 ·intro h
  rcases (show V≤Nm.val (Qd.part rs t M)∨Nm.val (Qd.part rs t M)+1≤V by omega) with c | c
  ·exact c
  ·exfalso
   have:=Int.mul_le_mul_of_nonneg_left c (show 0≤Nm.pw t by omega)
   rw [Int.mul_add,Int.mul_one] at this
   omega
theorem InI.room {w:World} {g g2 C K:Nat} {A b:Int} {t k Y:Nat} {os rs:List Int} {wr:World} (h:InI w g g2 C K A b t k os rs wr) (hk:k≤64) (hb:b<Nm.pw Y) (hb0:0≤b):Nm.val rs<Nm.pw (t+(Y+1)):=by
 have h1:=h.lt
 have h2:=qtwo_lt hb hb0 hk
 have h3:Nm.pw t*(b*2^k)≤Nm.pw t*Nm.pw (Y+1):=Int.mul_le_mul_of_nonneg_left (by omega) (by have:=Nm.pw_pos t;omega)
 rw [←Nm.pw_add] at h3
 omega
theorem holds_is (s:Bool) (p q:Option Addr) (R cap M cap' j:Nat) (rs ms:List Int) (ji:Int) (w:World) (hr:rs.length=R) (hR:R≤17592186044416) (hm:ms.length=M) (hM:0<M) (hjM:j+M≤R) (h1:Lies w p rs) (h2:Lies w q ms) (hlr:Nm.Limbs rs) (hlm:Nm.Limbs ms) (hji:ji=(j:Int)) (hs:decide (Nm.val ms≤Nm.val (Qd.part rs j M))=s):
  Calls Tryz.prog 310 #[.slice p R cap,.int .i64 ji,.slice q M cap'] w fun e w'=>e=.returned (.bool s)∧Below w.heap.size w w':=by
 rw [←hs]
 exact holds_any p q R cap M cap' j rs ms ji w hr hR hm hM hjM h1 h2 hlr hlm hji
set_option maxRecDepth 100000 in
set_option maxHeartbeats 4000000 in
theorem refDivide_any (p q:Option Addr) (n cap m cap':Nat) (za zb:List Int) (w:World) (ha:Arg w p n cap za) (hb:Arg w q m cap' zb) (tz:Nm.tsize za≤4096) (ty:Nm.tsize zb≤4096) (hy:0<Nm.tsize zb):
  Calls Tryz.prog 302 #[.slice p n cap,.slice q m cap'] w fun e w'=>Parts (Nm.val za) (Nm.val zb) w e w':=by
 obtain ⟨N,hN⟩:∃N,Nm.tsize za=N:=⟨_,rfl⟩
 obtain ⟨Y,hY⟩:∃Y,Nm.tsize zb=Y:=⟨_,rfl⟩
 have ha1:=ha.2.1
 have ha2:=ha.2.2.1
 have hb1:=hb.2.1
 have hb2:=hb.2.2.1
 have S1:=short_any p n cap za N w ha.1 (by omega) ha.2.2.2.1 hN
 have b0:=(Nm.val_bd zb hb.2.2.2.2).1
 have a0:=(Nm.val_bd za ha.2.2.2.2).1
 have bY:=Nm.val_lt_tsize hb.2.2.2.2
 rw [hY] at bY
 have HN:=hid hN
 have HYY:=hid hY
 have HA:=hid ha
 have HB:=hid hb
 have HS1:=hid S1
 have hN4:N≤4096:=by omega
 have hY4:Y≤4096:=by omega
 have hY0:0<Y:=by omega
 have RM:Hid (∀K,N+1=K+Y→Nm.val za<Nm.pw K*Nm.val zb):=fun K hK=>first_room ha.2.2.2.2 hb.2.2.2.2 hN hY hY0 hK
 have NM:Hid (N<Y→Nm.val za<Nm.val zb):=fun h=>val_lt_of_tsize ha.2.2.2.2 hb.2.2.2.2 (by omega)
 obtain ⟨A,hAv⟩:∃A,Nm.val za=A:=⟨_,rfl⟩
 obtain ⟨b,hbv⟩:∃b,Nm.val zb=b:=⟨_,rfl⟩
 have HVA:=hid hAv
 have HVB:=hid hbv
 rw [hAv,hbv] at RM NM
 rw [hAv] at a0
 rw [hbv] at b0 bY
 rw [hAv,hbv]
 have HbY:=hid bY
 clear ha hb tz ty hy S1 bY hN hY hAv hbv
 go_enter Tryz.func302,Tryz.ntmps302
 go_wp2_with fail
 refine HS1.out.mono ?_
 rintro e w1 ⟨rfl,o1,d1⟩
 have O1:=hid o1
 have D1:=hid d1
 clear o1 d1 HS1
 go_wp2_with fail
 refine (short_any q m cap' zb Y _ HB.out.1 (by omega) (HB.out.2.2.2.1.below D1.out (Nat.le_refl _)) HYY.out).mono ?_
 rintro e w2 ⟨rfl,o2,d2⟩
 have O1':=hid (O1.out.below d2 O1.out.lt)
 have O2:=hid o2
 have D2:=hid (chain D1.out d2 (Nat.le_refl _))
 have hw1:w.heap.size≤w1.heap.size:=D1.out.size
 clear o2 d2 O1 D1
 have A1:Hid (Arg w2 (some ⟨w.heap.size,0,none⟩) N N (Nm.trim za)):=⟨(Nm.trim_length za).trans HN.out,Nat.le_refl _,by omega,O1'.out.lies,HA.out.2.2.2.2.trim⟩
 have A2:Hid (Arg w2 (some ⟨w1.heap.size,0,none⟩) Y Y (Nm.trim zb)):=⟨(Nm.trim_length zb).trans HYY.out,Nat.le_refl _,by omega,O2.out.lies,HB.out.2.2.2.2.trim⟩
 by_cases hlt:A<b
 ·have HLT:=hid hlt
  clear hlt
  go_wp2_with fail
  refine (order_is (-1) _ _ N N Y Y (Nm.trim za) (Nm.trim zb) _ A1.out A2.out (cmpI_lt (by rw [Nm.val_trim,Nm.val_trim,HVA.out,HVB.out];exact HLT.out))).mono ?_
  rintro e w3 ⟨rfl,d3⟩
  have F:Hid (Parts A b w (.returned (.tuple #[.slice none 0 0,.slice (some ⟨w.heap.size,0,none⟩) N N])) w3):=by
   have hd:=div_is (A:=A) (B:=b) (q:=0) (r:=A) a0 HLT.out (by omega)
   have hl:(Nm.trim za).length=N:=(Nm.trim_length za).trans HN.out
   refine ⟨none,[],some ⟨w.heap.size,0,none⟩,Nm.trim za,by rw [hl];rfl,?_,?_,chain D2.out d3 (Nat.le_refl _)⟩
   ·rw [hd.1];exact ans_none _ _ _ (fun a h=>by cases h)
   ·rw [hd.2,←HVA.out];exact (O1'.out.below d3 O1'.out.lt).ans HA.out.2.2.2.2 (Nat.le_refl _)
  clear d3
  go_wp2_with fail
  go_ret2
  exact F.out
 ·obtain ⟨c,hc0,HC⟩:∃c:Int,0≤c∧Hid (cmpI A b=c):=by
   rcases (show A=b∨b<A by omega) with h | h
   ·exact ⟨0,by omega,cmpI_eq h⟩
   ·exact ⟨1,by omega,cmpI_gt h⟩
  have hNY:Y≤N:=by
   rcases Nat.lt_or_ge N Y with h | h
   ·exact absurd (NM.out h) hlt
   ·exact h
  clear hlt NM
  go_wp2_with fail
  refine (order_is c _ _ N N Y Y (Nm.trim za) (Nm.trim zb) _ A1.out A2.out (by rw [Nm.val_trim,Nm.val_trim,HVA.out,HVB.out];exact HC.out)).mono ?_
  rintro e w3 ⟨rfl,d3⟩
  have D3:=hid (chain D2.out d3 (Nat.le_refl _))
  have HB3:=hid (HB.out.below D3.out (Nat.le_refl _))
  clear d3 O1' O2 A1 A2 D2
  go_wp2_with fail
  refine (short_any q m cap' zb Y _ HB3.out.1 (by omega) HB3.out.2.2.2.1 HYY.out).mono ?_
  rintro e w4 ⟨rfl,o4,d4⟩
  obtain ⟨c4,w5,ap,hc5,o5,d5⟩:=grow64 w3.heap.size Y (Nm.trim zb) 0 w4 ((Nm.trim_length zb).trans HYY.out) (by omega) o4
  have AP:=hid ap
  have D5:=hid (chain (chain D3.out d4 (Nat.le_refl _)) d5 (Nat.le_refl _))
  have M5:Hid (Mv Y (b*2^0) w5 (w4.heap.size+1)):=by
   refine ⟨_,o5,by simp [Nm.trim_length,HYY.out],?_,?_⟩
   ·exact ((HB.out.2.2.2.2.trim).append (limb_one (by omega))).append (Nm.Limbs.replicate _)
   ·rw [Nm.val_append,Nm.val_append,Nm.val_replicate,Nm.val_trim,HVB.out]
    simp [Nm.val]
  have hs5:=D5.out.size
  clear ap o4 d4 o5 d5 D3 HB3
  go_wp2_with (at_builtin;refine wpList_append_q rfl _ _ rfl AP.out (by rfl) (by rfl) ?_;clear AP)
  go_loopw [8,9,10] (fun a c i wr=>∃(k:Nat) (mv:Value) (l:List (Nat × Nat)) (gm cm:Nat),k≤64∧i=.int .i64 k∧a=mv∧c=.slice (some ⟨gm,0,none⟩) (Y+1) cm∧Hid (Y+1≤cm)∧Hid (l.length=k∧wr.ownsRow w.heap.size 50 1 mv k (l.map (hdr Y))∧(∀t e,l[t]?=some e→Mv Y (b*2^t) wr e.1)∧Mv Y (b*2^k) wr gm∧Below w.heap.size w wr)) (fun _ _ i _=>64 - (intOf i).toNat)
  case atStart=>exact ⟨0,.slice none 0 0,[],w4.heap.size+1,c4,by omega,rfl,rfl,rfl,hc5,rfl,World.ownsRow_nil _ _ _ _,fun t e h=>by simp at h,M5.out,D5.out⟩
  case round=>
   clear M5 D5 hs5
   obtain ⟨k,mv,l,gm,cm,hk,rfl,hmv,rfl,HCM,I⟩:=hrel
   have hmv:=hmv.symm
   subst hmv
   by_cases hk64:k<64
   ·obtain ⟨i1,i2,i3,i4,i5⟩:=I.out
    obtain ⟨mv',w6,ap,j1,j2,j3,j4⟩:=pushHdr w.heap.size Y k mv l (gm,cm) wr i1 (by omega) i5.size i2
    have AP:Hid ((Builtin.append_ #[304,304] 304 #[mv,.slice (some ⟨wr.heap.size,0,none⟩) 1 1]).run Tryz.prog (wr.alloc (.cells #[.slice (some ⟨gm,0,none⟩) (Y+1) cm] 50))=.ok mv' w6):=ap
    obtain ⟨ms,m1,m2,m3,m4⟩:=(j3 _ _ i4).lies (qtwo_lt HbY.out b0 (by omega))
    have J1:=hid j1
    have J2:=hid (i5.trans j2)
    have J3:Hid ((∀t e,(l++[(gm,cm)])[t]?=some e→Mv Y (b*2^t) w6 e.1)∧(l++[(gm,cm)]).length=k+1):=by
     refine ⟨fun t e h=>?_,by simp [i1]⟩
     by_cases ht:t<l.length
     ·rw [List.getElem?_append_left ht] at h
      exact j3 _ _ (i3 t e h)
     ·have hlt:=(List.getElem?_eq_some_iff.1 h).1
      simp only [List.length_append,List.length_cons,List.length_nil] at hlt
      have ht2:t=k:=by omega
      subst ht2
      rw [List.getElem?_append_right (by omega),i1,Nat.sub_self] at h
      simp at h
      subst h
      exact j3 _ _ i4
    have DB:=hid (doubled_any (some ⟨gm,0,none⟩) (Y+1) cm ms 0 w6 m2 (by omega) m1 m3 (by omega) (by omega))
    have M4:=hid m4
    clear ap i1 i2 i3 i4 i5 j1 j2 j3 j4 m1 m2 m3 m4 I
    go_wp2_with (at_builtin;refine wpList_append_q rfl _ _ rfl AP.out (by rfl) (by rfl) ?_;clear AP)
    refine DB.out.mono ?_
    rintro e w7 ⟨os,rfl,K⟩
    have KK:Hid ((l++[(gm,cm)]).length=k+1∧w7.ownsRow w.heap.size 50 1 mv' (k+1) ((l++[(gm,cm)]).map (hdr Y))∧(∀t e,(l++[(gm,cm)])[t]?=some e→Mv Y (b*2^t) w7 e.1)∧Mv Y (b*2^(k+1)) w7 w6.heap.size∧Below w.heap.size w w7):=by
     obtain ⟨k1,k2,k3,k4,k5⟩:=K.out
     refine ⟨J3.out.2,?_,fun t e h=>(J3.out.1 t e h).below k5,⟨os,k1,by omega,k3,?_⟩,chain J2.out k5 (Nat.le_refl _)⟩
     ·exact J1.out.kept (row:=none) ⟨k5.os,k5.tape,k5.output,k5.size,fun j hj _=>k5.block j hj⟩ (by cases h:Value.ownBlock mv' <;> simp)
     ·rw [k4,M4.out,Nm.two_succ,Int.mul_left_comm];omega
    clear K DB J1 J2 J3 M4
    go_wp2_with fail
    go_roundw
    case rel=>exact ⟨k+1,mv',l++[(gm,cm)],w6.heap.size,Y+1+1,by omega,by go_num,rfl,rfl,by show _≤_;omega,KK.out⟩
    case measure=>simp [intOf];omega
   ·have hk2:k=64:=by omega
    subst hk2
    obtain ⟨i1,i2,i3,i4,i5⟩:=I.out
    obtain ⟨gv,cv,rfl,MV⟩:=moved_of b0 HbY.out i1 i2 i3
    have HMV:=hid MV
    have D6:=hid i5
    have HA6:=hid (HA.out.below i5 (Nat.le_refl _))
    clear MV i1 i2 i3 i4 i5 I
    go_wp2_with fail
    refine (short_any p n cap za N _ HA6.out.1 (by omega) HA6.out.2.2.2.1 HN.out).mono ?_
    rintro e w7 ⟨rfl,o7,d7⟩
    obtain ⟨C,w8,ap,hc8,o8,d8⟩:=grow64 wr.heap.size N (Nm.trim za) 0 w7 ((Nm.trim_length za).trans HN.out) (by omega) o7
    have AP:=hid ap
    have D8:=hid (chain d7 d8 (Nat.le_refl _))
    obtain ⟨J,HJ⟩:∃J,Hid (J=N - Y):=⟨_,rfl⟩
    have hJ:J≤4096:=by rw [HJ.out];omega
    have r1:(N:Int) - (Y:Int)=(J:Int):=by rw [HJ.out];omega
    have hmk:=make64 (J+1) (by omega) w8
    have em:((J+1:Nat):Int)=(J:Int)+1:=by omega
    rw [em] at hmk
    clear em
    have hb9:Below w8.heap.size w8 (w8.alloc (.cells (madeCells #[.int .u64 0] (J+1)) 24)):=(Below.refl _ _).alloc (Nat.le_refl _) _
    have ho9:Own (w8.alloc (.cells (madeCells #[.int .u64 0] (J+1)) 24)) w8.heap.size (List.replicate (J+1) 0):=by
     rw [made_zero];exact Own.alloc w8 _
    obtain ⟨W0,hW0⟩:∃W0,w8.alloc (.cells (madeCells #[.int .u64 0] (J+1)) 24)=W0:=⟨_,rfl⟩
    rw [hW0] at hmk hb9 ho9
    clear hW0
    have hg:w7.heap.size+1<w8.heap.size:=o8.lt
    have d78:=chain d7 d8 (Nat.le_refl _)
    have HM8:=hid (HMV.out.lift d78 (show wr.heap.size≤w7.heap.size+1 by have:=d7.size;omega))
    have I0:Hid (DivI w8 (w7.heap.size+1) w8.heap.size C (J+1) A b (J+1) (List.replicate (J+1) 0) (Nm.trim za++[0]++List.replicate (C - (N+1)) 0) W0):=by
     have ev:Nm.val (Nm.trim za++[0]++List.replicate (C - (N+1)) 0)=A:=by
      rw [Nm.val_append,Nm.val_append,Nm.val_replicate,Nm.val_trim,HVA.out]
      simp [Nm.val]
     refine ⟨o8.below hb9 o8.lt,by simp [Nm.trim_length,HN.out];omega,((HA.out.2.2.2.2.trim).append (limb_one (by omega))).append (Nm.Limbs.replicate _),ho9,by simp,Nm.Limbs.replicate _,fun i _=>getD_replicate _ _,?_,?_,hb9.mono (Nat.le_of_lt hg)⟩
     ·rw [Nm.val_replicate,ev];omega
     ·rw [ev];exact RM.out (J+1) (by rw [HJ.out];omega)
    have D8:=hid (chain D6.out d78 (Nat.le_refl _))
    obtain ⟨g,hge⟩:∃g,w7.heap.size+1=g:=⟨_,rfl⟩
    obtain ⟨gq,hgq⟩:∃gq,w8.heap.size=gq:=⟨_,rfl⟩
    rw [hge] at I0 HM8 hg AP
    rw [hgq] at I0 hg hmk
    have hbase:Hid (w.heap.size≤g):=by
     show _≤_
     have:=D6.out.size
     have:=d7.size
     omega
    clear ap o7 d7 o8 d8 d78 hb9 ho9 HMV HA6 hge hgq
    go_wp2_with (at_builtin;refine wpList_append_q rfl _ _ rfl AP.out (by rfl) (by rfl) ?_;clear AP)
    go_loopg [13] (J+1) (fun j i wx=>∃(os rs:List Int),j≤J+1∧i=.int .i64 ((j:Int) - 1)∧Hid (DivI w8 g gq C (J+1) A b j os rs wx))
    case atStart=>exact ⟨_,_,Nat.le_refl _,by go_num,I0.out⟩
    case round=>
     clear I0 hmk r1
     obtain ⟨os,rs,hj,rfl,I⟩:=hrel
     cases gk with
     | zero=>
      have HO:=hid I.out.own2
      have HR:=hid I.out.own
      have HE:Hid (A/b=Nm.val os∧A%b=Nm.val rs):=by
       have h1:=I.out.eq
       have h2:=I.out.lt
       simp only [Nm.pw,Int.one_mul] at h2
       exact div_is (Nm.val_bd rs I.out.lim).1 h2 h1
      have hrs:Hid (Nm.val (rs.take (N+1))=Nm.val rs):=by
       have h2:=I.out.lt
       simp only [Nm.pw,Int.one_mul] at h2
       refine Nm.val_take_of_zero rs (N+1) (fun i hi=>Nm.zero_of_lt I.out.lim (k:=Y) (by have:=HbY.out;omega) i (by omega))
      have hlen:Hid ((rs.take (N+1)).length=N+1):=by
       show _=_
       rw [List.length_take,I.out.len]
       omega
      obtain ⟨T1,hT1⟩:∃T,Hid (Nm.tsize os=T):=⟨_,rfl⟩
      obtain ⟨T2,hT2⟩:∃T,Hid (Nm.tsize (rs.take (N+1))=T):=⟨_,rfl⟩
      have DX:=hid (D8.out.trans (I.out.low.mono hbase.out))
      have hq1:Hid (os.length=J+1):=I.out.len2
      have L1:=hid I.out.lim
      have L2:=hid I.out.lim2
      clear I
      go_wp2_with fail
      refine (short_any (some ⟨gq,0,none⟩) (J+1) (J+1) os T1 _ hq1.out (by omega) HO.out.lies hT1.out).mono ?_
      rintro e w10 ⟨rfl,o10,d10⟩
      have O10:=hid o10
      have D10:=hid d10
      have HR2:=hid (HR.out.below d10 HR.out.lt)
      have hsz:Hid (w.heap.size≤wr.heap.size):=DX.out.size
      clear o10 d10 HR
      go_wp2_with fail
      refine (short_any (some ⟨g,0,none⟩) (N+1) C (rs.take (N+1)) T2 _ hlen.out (by omega) (HR2.out.lies.take _) hT2.out).mono ?_
      rintro e w11 ⟨rfl,o11,d11⟩
      have F:Hid (Parts A b w (.returned (.tuple #[.slice (some ⟨wr.heap.size,0,none⟩) T1 T1,.slice (some ⟨w10.heap.size,0,none⟩) T2 T2])) w11):=by
       have l1:(Nm.trim os).length=T1:=(Nm.trim_length os).trans hT1.out
       have l2:(Nm.trim (rs.take (N+1))).length=T2:=(Nm.trim_length _).trans hT2.out
       refine ⟨_,Nm.trim os,_,Nm.trim (rs.take (N+1)),by rw [l1,l2],?_,?_,chain (chain DX.out D10.out (Nat.le_refl _)) d11 (Nat.le_refl _)⟩
       ·rw [HE.out.1];exact (O10.out.below d11 O10.out.lt).ans L2.out hsz.out
       ·rw [HE.out.2,←hrs.out];exact o11.ans (L1.out.take _) (Nat.le_trans hsz.out D10.out.size)
      clear o11 d11
      go_wp2_with fail
      go_ret2
      exact F.out
     | succ t=>
      have II:=hid (InI.first I.out)
      have htJ:(t:Int)<(J:Int)+1:=by omega
      clear I
      rw [show ((t+1:Nat):Int) - 1=(t:Int) by omega]
      go_wp2_with fail
      go_loopg [14] 64 (fun k i wy=>∃(os rs:List Int),k≤64∧i=.int .i64 ((k:Int) - 1)∧Hid (InI w8 g gq C (J+1) A b t k os rs wy))
      case atStart=>exact ⟨os,rs,Nat.le_refl _,rfl,II.out⟩
      case round=>
       clear II
       obtain ⟨os,rs,hk,rfl,I⟩:=hrel
       cases gk with
       | zero=>
        have IL:=hid I.out.last
        clear I
        go_wp2_with fail
        go_roundg t
        case measure=>omega
        case rel=>exact ⟨os,rs,by omega,by go_num,IL.out⟩
       | succ s=>
        obtain ⟨gs,cs,ms,hcell,m2,m3,m4,m5,m6⟩:=(HM8.out.lift I.out.low (Nat.le_refl _)).at' s (by omega)
        have hgv:=HM8.out.lt
        have M2:=hid m2
        have M3:=hid m3
        have M4:=hid m4
        have M5:=hid m5
        have hlen:Hid ((rs.take (N+1)).length=N+1):=by
         show _=_
         rw [List.length_take,I.out.len]
         omega
        have hNt:Hid (t+(Y+1)≤N+1):=by show _≤_;have:=HJ.out;omega
        have hlt2:Hid (t+(Y+1)≤rs.length):=by show _≤_;rw [I.out.len];have:=hNt.out;omega
        have RO:=hid (I.out.room hk HbY.out b0)
        have HI:=hid (holds_iff I.out.lim hlt2.out RO.out (b*2^s))
        have hs64:(s:Int)<64:=by omega
        clear m2 m3 m4 m5
        by_cases hle:Nm.pw t*(b*2^s)≤Nm.val rs
        ·have HO:=hid (holds_is true (some ⟨g,0,none⟩) (some ⟨gs,0,none⟩) (N+1) C (Y+1) cs t (rs.take (N+1)) ms (t:Int) wr hlen.out (by omega) M3.out (by omega) hNt.out (I.out.own.lies.take _) M2.out (I.out.lim.take _) M4.out rfl (by rw [part_take hNt.out,M5.out];simp only [decide_eq_true_eq];exact HI.out.2 hle))
         have HLE:=hid hle
         clear hle HI
         go_wp2_with fail
         refine HO.out.mono ?_
         rintro e w12 ⟨rfl,d12⟩
         have hcell2:w12.cell? ⟨gv,s,none⟩=some (.slice (some ⟨gs,0,none⟩) (Y+1) cs):=by
          rw [d12.cell (p:=⟨gv,s,none⟩) (by show gv<wr.heap.size;have:=I.out.own.lt;omega)]
          exact hcell
         have D12:=hid d12
         have OR:=hid (I.out.orr (by omega))
         have TO:=hid (takeOff_any g C (N+1) C (Y+1) cs t rs (some ⟨gs,0,none⟩) ms (t:Int) w12 (I.out.own.below d12 I.out.own.lt) I.out.len hc8 (by omega) M3.out (by omega) hNt.out I.out.lim (M2.out.below d12 (Nat.le_refl _)) M4.out (fun a ha=>by cases ha;show gs≠g;omega) rfl (by rw [M5.out];exact HLE.out) RO.out)
         rw [M5.out] at TO
         clear hcell d12 HO
         go_wp2_with fail
         refine TO.out.mono ?_
         rintro e w13 ⟨rs',rfl,P⟩
         obtain ⟨o2,IN⟩:=I.out.take (by omega) hg D12.out P.out.1 P.out.2.1 P.out.2.2.1 P.out.2.2.2.1 P.out.2.2.2.2.1 P.out.2.2.2.2.2.2 (by omega)
         obtain ⟨y,hy,YE⟩:∃y,w13.cell? ⟨gq,t,none⟩=some (.int .u64 y)∧Hid (os.getD t 0=y):=⟨_,o2.cell t (by have:=I.out.len2;omega),rfl⟩
         have hfr:=o2.free t
         rw [YE.out] at IN OR
         obtain ⟨PP,HP⟩:∃P:Int,Hid (2^s=P):=⟨_,rfl⟩
         have q1:IntKind.u64.wrap (2^s)=PP:=by
          have h1:=Nm.two_pos s
          have h2:=Nm.two_mono (show s≤63 by omega)
          rw [show (2:Int)^63=9223372036854775808 by decide] at h2
          rw [←HP.out,wrap_mod]
          omega
         rw [HP.out] at OR IN
         have q2:=OR.out.1
         obtain ⟨z,HZ⟩:∃z,Hid (y+PP=z):=⟨_,rfl⟩
         rw [HZ.out] at q2 IN
         have HIN:=hid IN
         clear IN o2 P I TO OR
         go_wp2_with fail
         go_roundg s
         case measure=>omega
         case rel=>exact ⟨_,rs',by omega,by go_num,HIN.out⟩
        ·have HO:=hid (holds_is false (some ⟨g,0,none⟩) (some ⟨gs,0,none⟩) (N+1) C (Y+1) cs t (rs.take (N+1)) ms (t:Int) wr hlen.out (by omega) M3.out (by omega) hNt.out (I.out.own.lies.take _) M2.out (I.out.lim.take _) M4.out rfl (by rw [part_take hNt.out,M5.out];simp only [decide_eq_false_iff_not];exact fun h=>hle (HI.out.1 h)))
         have HLE:Hid (Nm.val rs<Nm.pw t*(b*2^s)):=Int.not_le.1 hle
         clear hle HI
         go_wp2_with fail
         refine HO.out.mono ?_
         rintro e w12 ⟨rfl,d12⟩
         have HIN:=hid (I.out.skip d12 HLE.out)
         clear d12 I
         go_wp2_with fail
         go_roundg s
         case measure=>omega
         case rel=>exact ⟨os,rs,by omega,by go_num,HIN.out⟩
end Go.Proofs.YtbdhlfklcdegdaaGreatDoor

namespace Go.Proofs.YtbdhlfklcdegdaaGreatDoor
open Go.RowKit Go.Deep
theorem val_take_any (zs:List Int) (k:Nat):Nm.val (zs.take (k+1))=Nm.val (zs.take k)+Nm.pw k*zs.getD k 0:=by
 by_cases h:k<zs.length
 ·exact Nm.val_take_succ zs k h
 ·rw [List.take_of_length_le (by omega),List.take_of_length_le (by omega),List.getD,List.getElem?_eq_none (by omega)]
  simp
theorem getD_out {zs:List Int} {k:Nat} (h:zs.length≤k):zs.getD k 0=0:=by rw [List.getD,List.getElem?_eq_none h];rfl
theorem plus_next {g n:Nat} {w:World} {xs ys:List Int} {j:Nat} {c c' s:Int} {os:List Int} {wr:World} (h:MaInv g (n+1) w (Nm.val (xs.take j)+Nm.val (ys.take j)) j c os wr) (hj:j<n) (hs:0≤s∧s<18446744073709551616) (hc:0≤c'∧c'≤1)
  (he:s+18446744073709551616*c'=xs.getD j 0+ys.getD j 0+c):MaInv g (n+1) w (Nm.val (xs.take (j+1))+Nm.val (ys.take (j+1))) (j+1) c' (os.set j s) (wr.setCell ⟨g,j,none⟩ (.int .u64 s)):=by
 have:=h.step (by omega) (x:=xs.getD j 0+ys.getD j 0) (s:=s) (c':=c') hs ⟨hc.1,by omega⟩ he
 have e:Nm.val (xs.take j)+Nm.val (ys.take j)+Nm.pw j*(xs.getD j 0+ys.getD j 0)=Nm.val (xs.take (j+1))+Nm.val (ys.take (j+1)):=by
  rw [val_take_any,val_take_any,Int.mul_add]
  omega
 rw [e] at this
 exact this
theorem wrap_over {x:Int} (h:18446744073709551616≤x) (h2:x<36893488147419103232):IntKind.u64.wrap x=x - 18446744073709551616:=by rw [wrap_mod];omega
theorem short_some (p:Option Addr) (n cap:Nat) (zs:List Int) (w:World) (hn:zs.length=n) (hm:n≤17592186044416) (h:Lies w p zs) (hz:Nm.Limbs zs):
  Calls Tryz.prog 303 #[.slice p n cap] w fun e w'=>∃r os,e=.returned (.slice r (List.length os) (List.length os))∧os=Nm.trim zs∧Ans w.heap.size w' r os (Nm.val zs)∧Below w.heap.size w w':=by
 refine (short_any p n cap zs _ w hn hm h rfl).mono ?_
 rintro e w' ⟨rfl,o,d⟩
 exact ⟨_,Nm.trim zs,by rw [Nm.trim_length],rfl,o.ans hz (Nat.le_refl _),d⟩
end Go.Proofs.YtbdhlfklcdegdaaGreatDoor

namespace Go.Proofs.YtbdhlfklcdegdaaGreatDoor
open Go.RowKit Go.Deep
def HalfInv (g N:Nat) (w:World) (zs:List Int) (j:Nat) (hs:List Int) (wr:World):Prop:=
 Own wr g hs∧hs.length=2*N∧Nm.Halves hs∧Nm.v32 hs=Nm.val (zs.take j)∧(∀i,2*j≤i→hs.getD i 0=0)∧Below g w wr
theorem HalfInv.step {g N:Nat} {w:World} {zs:List Int} {j:Nat} {hs:List Int} {wr:World} {x:Int} (h:HalfInv g N w zs j hs wr) (hj:j<N) (hz:j<zs.length) (hx:x=zs.getD j 0) (x0:0≤x) (x1:x<18446744073709551616):
  HalfInv g N w zs (j+1) ((hs.set (2*j) (x%4294967296)).set (2*j+1) (x/4294967296)) ((wr.setCell ⟨g,2*j,none⟩ (.int .u64 (x%4294967296))).setCell ⟨g,2*j+1,none⟩ (.int .u64 (x/4294967296))):=by
 obtain ⟨h1,h2,h3,h4,h5,h6⟩:=h
 have l1:2*j<hs.length:=by omega
 refine ⟨(h1.set _ _).set _ _,by simpa using h2,(h3.set _ (by omega) (by omega)).set _ (by omega) (by omega),?_,fun i hi=>?_,(h6.setCell (p:=⟨g,2*j,none⟩) (Nat.le_refl _) _).setCell (p:=⟨g,2*j+1,none⟩) (Nat.le_refl _) _⟩
 ·rw [Nm.v32_set _ _ _ (by simp;omega),Nm.v32_set _ _ _ l1,h5 (2*j) (by omega),Nm.getD_set _ _ _ _ l1,if_neg (by omega),h5 (2*j+1) (by omega),Int.sub_zero,Int.sub_zero,h4,Nm.val_take_succ zs j hz,←hx]
  simp only [Nm.p32,Nm.p32_two]
  have e:=Int.emod_add_mul_ediv x 4294967296
  have:Nm.pw j*x=Nm.pw j*(x%4294967296)+4294967296*Nm.pw j*(x/4294967296):=by
   conv=>lhs;rw [←e]
   rw [Int.mul_add,Int.mul_left_comm,Int.mul_assoc]
  omega
 ·rw [Nm.getD_set _ _ _ _ (by simp;omega),if_neg (by omega),Nm.getD_set _ _ _ _ l1,if_neg (by omega)]
  exact h5 i (by omega)
set_option maxRecDepth 100000 in
set_option maxHeartbeats 1000000 in
theorem halfWords_any (p:Option Addr) (n cap:Nat) (zs:List Int) (N:Nat) (w:World) (hn:zs.length=n) (hm:n≤17592186044416) (h:Lies w p zs) (hz:Nm.Limbs zs) (hN:Nm.tsize zs=N) (hNb:N≤1000000):
  Calls Tryz.prog 334 #[.slice p n cap] w fun e w'=>∃hs g,e=.returned (.slice (some ⟨g,0,none⟩) (2*N) (2*N))∧Hid (Own w' g hs∧hs.length=2*N∧Nm.Halves hs∧Nm.v32 hs=Nm.val zs∧w.heap.size≤g∧Below w.heap.size w w'):=by
 have T:=top_any p n cap zs w hn (by omega) h
 rw [hN] at T
 have HT:=hid T
 have tl:=Nm.tsize_le zs
 have hNn:N≤n:=by omega
 have hmk:=make64 (2*N) (by omega) w
 have em:((2*N:Nat):Int)=2*(N:Int):=by omega
 rw [em] at hmk
 clear em
 have ho:Own (w.alloc (.cells (madeCells #[.int .u64 0] (2*N)) 24)) w.heap.size (List.replicate (2*N) 0):=by
  rw [made_zero];exact Own.alloc w _
 have hb0:Below w.heap.size w (w.alloc (.cells (madeCells #[.int .u64 0] (2*N)) 24)):=(Below.refl _ _).alloc (Nat.le_refl _) _
 obtain ⟨W0,hW0⟩:∃W0,w.alloc (.cells (madeCells #[.int .u64 0] (2*N)) 24)=W0:=⟨_,rfl⟩
 rw [hW0] at hmk ho hb0
 have I0:Hid (HalfInv w.heap.size N w zs 0 (List.replicate (2*N) 0) W0):=⟨ho,by simp,Nm.Halves.zeros _,by rw [Nm.v32_zeros];simp [Nm.val],fun i _=>getD_replicate _ _,hb0⟩
 have TV:Hid (Nm.val (zs.take N)=Nm.val zs):=by rw [←hN];exact Nm.val_trim zs
 have HN:=hid hn
 have HL:=hid h
 have HZ:=hid hz
 clear hW0 ho hb0 T tl hN hn h hz
 by_cases h0:N=0
 ·subst h0
  have hmk1:(Instr.makeSlice 50 (.int .i64 0) (.int .i64 0)).run Tryz.prog w=.ok (.slice (some ⟨w.heap.size,0,none⟩) 0 0) W0:=hmk
  have F:Hid (Own W0 w.heap.size (List.replicate 0 0)∧(List.replicate 0 (0:Int)).length=2*0∧Nm.Halves (List.replicate 0 0)∧Nm.v32 (List.replicate 0 0)=Nm.val zs∧w.heap.size≤w.heap.size∧Below w.heap.size w W0):=by
   obtain ⟨i1,i2,i3,i4,i5,i6⟩:=I0.out
   exact ⟨i1,rfl,i3,by rw [←TV.out];exact i4,Nat.le_refl _,i6⟩
  clear hmk I0
  go_enter Tryz.func334,Tryz.ntmps334
  go_wp2_with fail
  refine HT.out.mono ?_
  rintro e w' ⟨rfl,rfl⟩
  go_wp2_with fail
  refine wp_loop_rounds 1 ?_
  rw [rounds_succ]
  go_wp2_with fail
  go_ret
  exact ⟨_,_,rfl,F⟩
 ·obtain ⟨b,off,rfl,hbw,HC⟩:=HL.out.at (by have:=HN.out;omega)
  go_enter Tryz.func334,Tryz.ntmps334
  go_wp2_with fail
  refine HT.out.mono ?_
  rintro e w' ⟨rfl,rfl⟩
  go_wp2_with fail
  go_loopw [5] (fun i wr=>∃(j:Nat) (hs:List Int),j≤N∧i=.int .i64 j∧Hid (HalfInv w'.heap.size N w' zs j hs wr)) (fun i _=>N - (intOf i).toNat)
  case atStart=>exact ⟨0,_,Nat.zero_le _,rfl,I0.out⟩
  case round=>
   clear hmk I0
   obtain ⟨j,hs,hj,rfl,I⟩:=hrel
   by_cases hlt:j<N
   ·obtain ⟨x,hx,X⟩:∃x,wr.cell? ⟨b,off+j,none⟩=some (.int .u64 x)∧Hid (x=zs.getD j 0):=⟨_,(I.out.2.2.2.2.2.cell (p:=⟨b,off+j,none⟩) hbw).trans (HC.out j (by have:=HN.out;omega)),rfl⟩
    have hx0:=HZ.out.at j
    rw [←X.out] at hx0
    obtain ⟨hx0,hx1⟩:=hx0
    have ST:=hid (I.out.step hlt (by have:=HN.out;omega) X.out hx0 hx1)
    obtain ⟨y1,hy1⟩:∃y,wr.cell? ⟨w'.heap.size,2*j,none⟩=some (.int .u64 y):=⟨_,I.out.1.cell (2*j) (by have:=I.out.2.1;omega)⟩
    have hf1:=I.out.1.free (2*j)
    have o2:=I.out.1.set (2*j) (x%4294967296)
    obtain ⟨y2,hy2⟩:∃y,(wr.setCell ⟨w'.heap.size,2*j,none⟩ (.int .u64 (x%4294967296))).cell? ⟨w'.heap.size,2*j+1,none⟩=some (.int .u64 y):=⟨_,o2.cell (2*j+1) (by simp;have:=I.out.2.1;omega)⟩
    have hf2:=o2.free (2*j+1)
    have hb2:Below w'.heap.size wr (wr.setCell ⟨w'.heap.size,2*j,none⟩ (.int .u64 (x%4294967296))):=(Below.refl _ _).setCell (p:=⟨w'.heap.size,2*j,none⟩) (Nat.le_refl _) _
    have hx2:(wr.setCell ⟨w'.heap.size,2*j,none⟩ (.int .u64 (x%4294967296))).cell? ⟨b,off+j,none⟩=some (.int .u64 x):=by
     rw [hb2.cell (p:=⟨b,off+j,none⟩) hbw]
     exact hx
    have r1:=r_mask32T x hx0 hx1
    have hjn:(j:Int)<(n:Int):=by omega
    have hj2:2*(j:Int)<2*(N:Int):=by omega
    have hj3:2*(j:Int)+1<2*(N:Int):=by omega
    clear I o2 hb2
    go_wp2_with fail
    go_roundw
    case rel=>exact ⟨j+1,_,by omega,by go_num,ST.out⟩
    case measure=>simp [intOf];omega
   ·have hjN:j=N:=by omega
    subst hjN
    have F:Hid (Own wr w'.heap.size hs∧hs.length=2*j∧Nm.Halves hs∧Nm.v32 hs=Nm.val zs∧w'.heap.size≤w'.heap.size∧Below w'.heap.size w' wr):=by
     obtain ⟨i1,i2,i3,i4,i5,i6⟩:=I.out
     exact ⟨i1,i2,i3,by rw [←TV.out];exact i4,Nat.le_refl _,i6⟩
    clear I
    go_wp2_with fail
    go_ret
    exact ⟨hs,_,rfl,F⟩
end Go.Proofs.YtbdhlfklcdegdaaGreatDoor

namespace Go.Proofs.YtbdhlfklcdegdaaGreatDoor
open Go.RowKit Go.Deep
set_option maxRecDepth 100000 in
set_option maxHeartbeats 4000000 in
theorem refPlus_any (p q:Option Addr) (L1 cap L2 cap' n:Nat) (xs ys:List Int) (w:World) (ha:Arg w p L1 cap xs) (hb:Arg w q L2 cap' ys) (h1:L1≤n) (h2:L2≤n) (hmx:(n=L1∧L2≤L1)∨(n=L2∧L1<L2)) (hn0:0<n) (hnb:n≤1000000):
  Calls Tryz.prog 291 #[.slice p L1 cap,.slice q L2 cap'] w fun e w'=>∃r os,e=.returned (.slice r (List.length os) (List.length os))∧Ans w.heap.size w' r os (Nm.val xs+Nm.val ys)∧Below w.heap.size w w':=by
 obtain ⟨a1,a2,a3,a4,a5⟩:=ha
 obtain ⟨b1,b2,b3,b4,b5⟩:=hb
 have hn44:n≤17592186044416:=by omega
 have hmk:=make64 (n+1) (by omega) w
 have em:((n+1:Nat):Int)=(n:Int)+1:=by omega
 rw [em] at hmk
 clear em
 have ho:Own (w.alloc (.cells (madeCells #[.int .u64 0] (n+1)) 24)) w.heap.size (List.replicate (n+1) 0):=by
  rw [made_zero];exact Own.alloc w _
 have hb0:Below w.heap.size w (w.alloc (.cells (madeCells #[.int .u64 0] (n+1)) 24)):=(Below.refl _ _).alloc (Nat.le_refl _) _
 obtain ⟨W0,hW0⟩:∃W0,w.alloc (.cells (madeCells #[.int .u64 0] (n+1)) 24)=W0:=⟨_,rfl⟩
 rw [hW0] at hmk ho hb0
 clear hW0
 have I0:MaInv w.heap.size (n+1) W0 (Nm.val (xs.take 0)+Nm.val (ys.take 0)) 0 0 (List.replicate (n+1) 0) W0:=
  ⟨⟨ho,by simp,Nm.Limbs.replicate _,by simp [Nm.val_replicate,Nm.val],Below.refl _ _,rfl⟩,by omega,fun i _=>getD_replicate _ _⟩
 have HI0:=hid I0
 have HB0:=hid hb0
 have A1:=hid a1
 have A4:=hid a4
 have A5:=hid a5
 have B1:=hid b1
 have B4:=hid b4
 have B5:=hid b5
 have fin:∀(c:Int) (os:List Int) (wr:World),0≤c→c≤1→MaInv w.heap.size (n+1) W0 (Nm.val (xs.take n)+Nm.val (ys.take n)) n c os wr→
   Own (wr.setCell ⟨w.heap.size,n,none⟩ (.int .u64 c)) w.heap.size (os.set n c)∧(os.set n c).length=n+1∧Nm.Limbs (os.set n c)∧Nm.val (os.set n c)=Nm.val xs+Nm.val ys∧Below w.heap.size w (wr.setCell ⟨w.heap.size,n,none⟩ (.int .u64 c)):=by
  intro c os wr c0 c1 I
  obtain ⟨⟨i1,i2,i3,i4,i5,i6⟩,i7,i8⟩:=I
  refine ⟨i1.set n c,by simpa using i2,i3.set n c0 (by omega),?_,(hb0.trans i5).setCell (p:=⟨w.heap.size,n,none⟩) (Nat.le_refl _) _⟩
  rw [Nm.val_set _ _ _ (by omega),i8 n (Nat.le_refl _),Int.sub_zero,i4,List.take_of_length_le (by omega),List.take_of_length_le (by omega)]
 have FIN:=hid fin
 have hL1n:(L1:Int)≤(n:Int):=by omega
 have hL2n:(L2:Int)≤(n:Int):=by omega
 clear fin I0 ho hb0 a1 a4 a5 b1 b4 b5
 rcases hmx with ⟨hmx1,hmx2⟩ | ⟨hmx1,hmx2⟩
 ·subst hmx1
  have hgt:¬(n:Int)<(L2:Int):=by omega
  go_enter Tryz.func291,Tryz.ntmps291
  go_wp2_with fail
  go_loopw [7,8] (fun cc i wr=>∃(j:Nat) (c:Int) (os:List Int),j≤n∧i=.int .i64 j∧cc=.int .u64 c∧(0≤c∧c≤1)∧Hid (MaInv w.heap.size (n+1) W0 (Nm.val (xs.take j)+Nm.val (ys.take j)) j c os wr)) (fun _ i _=>n - (intOf i).toNat)
  case atStart=>exact ⟨0,0,_,Nat.zero_le _,rfl,rfl,by omega,HI0.out⟩
  case round=>
   clear HI0 hmk
   obtain ⟨j,c,os,hj,rfl,rfl,⟨c0,c1⟩,I⟩:=hrel
   by_cases hlt:j<n
   ·obtain ⟨y0,hy0⟩:∃y,wr.cell? ⟨w.heap.size,j,none⟩=some (.int .u64 y):=⟨_,I.out.1.1.cell j (by have:=I.out.1.2.1;omega)⟩
    have hfr:=I.out.1.1.free j
    have hBw:=HB0.out.trans I.out.1.2.2.2.2.1
    have hjn:(j:Int)<(n:Int):=by omega
    have hjn1:(j:Int)<(n:Int)+1:=by omega
    by_cases hx:j<n
    ·obtain ⟨b,off,hp,hbw,HC⟩:=A4.out.at (by have:=A1.out;omega)
     subst hp
     obtain ⟨x,hxc,X⟩:∃x,wr.cell? ⟨b,off+j,none⟩=some (.int .u64 x)∧Hid (x=xs.getD j 0):=⟨_,(hBw.cell (p:=⟨b,off+j,none⟩) hbw).trans (HC.out j (by have:=A1.out;omega)),rfl⟩
     have hx0:=A5.out.at j
     rw [←X.out] at hx0
     obtain ⟨hx0,hx1⟩:=hx0
     have hxl:(j:Int)<(n:Int):=by omega
     by_cases hy:j<L2
     ·obtain ⟨b',off',hq,hbw',HC'⟩:=B4.out.at (by have:=B1.out;omega)
      subst hq
      obtain ⟨y,hyc,Y⟩:∃y,wr.cell? ⟨b',off'+j,none⟩=some (.int .u64 y)∧Hid (y=ys.getD j 0):=⟨_,(hBw.cell (p:=⟨b',off'+j,none⟩) hbw').trans (HC'.out j (by have:=B1.out;omega)),rfl⟩
      have hyy0:=B5.out.at j
      rw [←Y.out] at hyy0
      obtain ⟨hyy0,hyy1⟩:=hyy0
      have hyl:(j:Int)<(L2:Int):=by omega
      have HBw:=hid hBw
      clear hBw
      rcases (show x+y+c<18446744073709551616∨(x+y<18446744073709551616∧18446744073709551616≤x+y+c)∨18446744073709551616≤x+y by omega) with k | k | k
      ·have N:=hid (plus_next I.out (s:=x+y+c) (c':=0) hlt (by omega) (by omega) (by rw [←X.out,←Y.out];omega))
       have k1:¬x+y<x:=by omega
       have k2:¬x+y+c<c:=by omega
       clear I
       go_wp2
       go_roundw
       case rel=>exact ⟨j+1,0,_,by omega,by go_num,rfl,by omega,N.out⟩
       case measure=>simp [intOf];omega
      ·obtain ⟨k1,k2⟩:=k
       have N:=hid (plus_next I.out (s:=x+y+c - 18446744073709551616) (c':=1) hlt (by omega) (by omega) (by rw [←X.out,←Y.out];omega))
       have k3:¬x+y<x:=by omega
       have r2:=wrap_over k2 (by omega)
       have k4:x+y+c - 18446744073709551616<c:=by omega
       clear I
       go_wp2
       go_roundw
       case rel=>exact ⟨j+1,1,_,by omega,by go_num,rfl,by omega,N.out⟩
       case measure=>simp [intOf];omega
      ·have N:=hid (plus_next I.out (s:=x+y - 18446744073709551616+c) (c':=1) hlt (by omega) (by omega) (by rw [←X.out,←Y.out];omega))
       have r2:=wrap_over k (by omega)
       have k3:x+y - 18446744073709551616<x:=by omega
       have k4:¬x+y - 18446744073709551616+c<c:=by omega
       clear I
       go_wp2
       go_roundw
       case rel=>exact ⟨j+1,1,_,by omega,by go_num,rfl,by omega,N.out⟩
       case measure=>simp [intOf];omega
     ·have YZ:=hid (getD_out (zs:=ys) (k:=j) (by have:=B1.out;omega))
      have hyl:¬(j:Int)<(L2:Int):=by omega
      clear hBw
      rcases (show x+c<18446744073709551616∨18446744073709551616≤x+c by omega) with k | k
      ·have N:=hid (plus_next I.out (s:=x+c) (c':=0) hlt (by omega) (by omega) (by rw [←X.out,YZ.out];omega))
       have k2:¬x+c<c:=by omega
       clear I
       go_wp2
       go_roundw
       case rel=>exact ⟨j+1,0,_,by omega,by go_num,rfl,by omega,N.out⟩
       case measure=>simp [intOf];omega
      ·have N:=hid (plus_next I.out (s:=x+c - 18446744073709551616) (c':=1) hlt (by omega) (by omega) (by rw [←X.out,YZ.out];omega))
       have r2:=wrap_over k (by omega)
       have k4:x+c - 18446744073709551616<c:=by omega
       clear I
       go_wp2
       go_roundw
       case rel=>exact ⟨j+1,1,_,by omega,by go_num,rfl,by omega,N.out⟩
       case measure=>simp [intOf];omega
    ·exact absurd hlt hx
   ·have hjn:j=n:=by omega
    subst hjn
    have F:=hid (FIN.out c os wr c0 c1 I.out)
    obtain ⟨y0,hy0⟩:∃y,wr.cell? ⟨w.heap.size,j,none⟩=some (.int .u64 y):=⟨_,I.out.1.1.cell j (by have:=I.out.1.2.1;omega)⟩
    have hfr:=I.out.1.1.free j
    clear I
    go_wp2_with fail
    refine (short_some (some ⟨w.heap.size,0,none⟩) (j+1) (j+1) (os.set j c) _ F.out.2.1 (by omega) F.out.1.lies F.out.2.2.1).mono ?_
    rintro e w2 ⟨r,us,rfl,-,A2,d2⟩
    have G:Hid (Ans w.heap.size w2 r us (Nm.val xs+Nm.val ys)∧Below w.heap.size w w2):=by
     rw [←F.out.2.2.2.1]
     exact ⟨A2.up F.out.2.2.2.2.size,chain F.out.2.2.2.2 d2 (Nat.le_refl _)⟩
    clear A2 d2
    go_wp2_with fail
    go_ret
    exact ⟨r,us,rfl,G.out.1,G.out.2⟩
 ·subst hmx1
  have hgt:(L1:Int)<(n:Int):=by omega
  go_enter Tryz.func291,Tryz.ntmps291
  go_wp2_with fail
  go_loopw [7,8] (fun cc i wr=>∃(j:Nat) (c:Int) (os:List Int),j≤n∧i=.int .i64 j∧cc=.int .u64 c∧(0≤c∧c≤1)∧Hid (MaInv w.heap.size (n+1) W0 (Nm.val (xs.take j)+Nm.val (ys.take j)) j c os wr)) (fun _ i _=>n - (intOf i).toNat)
  case atStart=>exact ⟨0,0,_,Nat.zero_le _,rfl,rfl,by omega,HI0.out⟩
  case round=>
   clear HI0 hmk
   obtain ⟨j,c,os,hj,rfl,rfl,⟨c0,c1⟩,I⟩:=hrel
   by_cases hlt:j<n
   ·obtain ⟨y0,hy0⟩:∃y,wr.cell? ⟨w.heap.size,j,none⟩=some (.int .u64 y):=⟨_,I.out.1.1.cell j (by have:=I.out.1.2.1;omega)⟩
    have hfr:=I.out.1.1.free j
    have hBw:=HB0.out.trans I.out.1.2.2.2.2.1
    have hjn:(j:Int)<(n:Int):=by omega
    have hjn1:(j:Int)<(n:Int)+1:=by omega
    by_cases hx:j<L1
    ·obtain ⟨b,off,hp,hbw,HC⟩:=A4.out.at (by have:=A1.out;omega)
     subst hp
     obtain ⟨x,hxc,X⟩:∃x,wr.cell? ⟨b,off+j,none⟩=some (.int .u64 x)∧Hid (x=xs.getD j 0):=⟨_,(hBw.cell (p:=⟨b,off+j,none⟩) hbw).trans (HC.out j (by have:=A1.out;omega)),rfl⟩
     have hx0:=A5.out.at j
     rw [←X.out] at hx0
     obtain ⟨hx0,hx1⟩:=hx0
     have hxl:(j:Int)<(L1:Int):=by omega
     by_cases hy:j<n
     ·obtain ⟨b',off',hq,hbw',HC'⟩:=B4.out.at (by have:=B1.out;omega)
      subst hq
      obtain ⟨y,hyc,Y⟩:∃y,wr.cell? ⟨b',off'+j,none⟩=some (.int .u64 y)∧Hid (y=ys.getD j 0):=⟨_,(hBw.cell (p:=⟨b',off'+j,none⟩) hbw').trans (HC'.out j (by have:=B1.out;omega)),rfl⟩
      have hyy0:=B5.out.at j
      rw [←Y.out] at hyy0
      obtain ⟨hyy0,hyy1⟩:=hyy0
      have hyl:(j:Int)<(n:Int):=by omega
      have HBw:=hid hBw
      clear hBw
      rcases (show x+y+c<18446744073709551616∨(x+y<18446744073709551616∧18446744073709551616≤x+y+c)∨18446744073709551616≤x+y by omega) with k | k | k
      ·have N:=hid (plus_next I.out (s:=x+y+c) (c':=0) hlt (by omega) (by omega) (by rw [←X.out,←Y.out];omega))
       have k1:¬x+y<x:=by omega
       have k2:¬x+y+c<c:=by omega
       clear I
       go_wp2
       go_roundw
       case rel=>exact ⟨j+1,0,_,by omega,by go_num,rfl,by omega,N.out⟩
       case measure=>simp [intOf];omega
      ·obtain ⟨k1,k2⟩:=k
       have N:=hid (plus_next I.out (s:=x+y+c - 18446744073709551616) (c':=1) hlt (by omega) (by omega) (by rw [←X.out,←Y.out];omega))
       have k3:¬x+y<x:=by omega
       have r2:=wrap_over k2 (by omega)
       have k4:x+y+c - 18446744073709551616<c:=by omega
       clear I
       go_wp2
       go_roundw
       case rel=>exact ⟨j+1,1,_,by omega,by go_num,rfl,by omega,N.out⟩
       case measure=>simp [intOf];omega
      ·have N:=hid (plus_next I.out (s:=x+y - 18446744073709551616+c) (c':=1) hlt (by omega) (by omega) (by rw [←X.out,←Y.out];omega))
       have r2:=wrap_over k (by omega)
       have k3:x+y - 18446744073709551616<x:=by omega
       have k4:¬x+y - 18446744073709551616+c<c:=by omega
       clear I
       go_wp2
       go_roundw
       case rel=>exact ⟨j+1,1,_,by omega,by go_num,rfl,by omega,N.out⟩
       case measure=>simp [intOf];omega
     ·exact absurd hlt hy
    ·have XZ:=hid (getD_out (zs:=xs) (k:=j) (by have:=A1.out;omega))
     have hxl:¬(j:Int)<(L1:Int):=by omega
     have hy:j<n:=by omega
     obtain ⟨b',off',hq,hbw',HC'⟩:=B4.out.at (by have:=B1.out;omega)
     subst hq
     obtain ⟨y,hyc,Y⟩:∃y,wr.cell? ⟨b',off'+j,none⟩=some (.int .u64 y)∧Hid (y=ys.getD j 0):=⟨_,(hBw.cell (p:=⟨b',off'+j,none⟩) hbw').trans (HC'.out j (by have:=B1.out;omega)),rfl⟩
     have hyy0:=B5.out.at j
     rw [←Y.out] at hyy0
     obtain ⟨hyy0,hyy1⟩:=hyy0
     have hyl:(j:Int)<(n:Int):=by omega
     have hy00:¬y<0:=by omega
     clear hBw
     rcases (show y+c<18446744073709551616∨18446744073709551616≤y+c by omega) with k | k
     ·have N:=hid (plus_next I.out (s:=y+c) (c':=0) hlt (by omega) (by omega) (by rw [XZ.out,←Y.out];omega))
      have k2:¬y+c<c:=by omega
      clear I
      go_wp2
      go_roundw
      case rel=>exact ⟨j+1,0,_,by omega,by go_num,rfl,by omega,N.out⟩
      case measure=>simp [intOf];omega
     ·have N:=hid (plus_next I.out (s:=y+c - 18446744073709551616) (c':=1) hlt (by omega) (by omega) (by rw [XZ.out,←Y.out];omega))
      have r2:=wrap_over k (by omega)
      have k4:y+c - 18446744073709551616<c:=by omega
      clear I
      go_wp2
      go_roundw
      case rel=>exact ⟨j+1,1,_,by omega,by go_num,rfl,by omega,N.out⟩
      case measure=>simp [intOf];omega
   ·have hjn:j=n:=by omega
    subst hjn
    have F:=hid (FIN.out c os wr c0 c1 I.out)
    obtain ⟨y0,hy0⟩:∃y,wr.cell? ⟨w.heap.size,j,none⟩=some (.int .u64 y):=⟨_,I.out.1.1.cell j (by have:=I.out.1.2.1;omega)⟩
    have hfr:=I.out.1.1.free j
    clear I
    go_wp2_with fail
    refine (short_some (some ⟨w.heap.size,0,none⟩) (j+1) (j+1) (os.set j c) _ F.out.2.1 (by omega) F.out.1.lies F.out.2.2.1).mono ?_
    rintro e w2 ⟨r,us,rfl,-,A2,d2⟩
    have G:Hid (Ans w.heap.size w2 r us (Nm.val xs+Nm.val ys)∧Below w.heap.size w w2):=by
     rw [←F.out.2.2.2.1]
     exact ⟨A2.up F.out.2.2.2.2.size,chain F.out.2.2.2.2 d2 (Nat.le_refl _)⟩
    clear A2 d2
    go_wp2_with fail
    go_ret
    exact ⟨r,us,rfl,G.out.1,G.out.2⟩
end Go.Proofs.YtbdhlfklcdegdaaGreatDoor
