/-
  Texts put together: SIn, VaRI.
-/
import Derived.Test.YtbdhlfklcdegdaaGreatDoorSInN
import Derived.Test.YtbdhlfklcdegdaaGreatDoorWAH
import Derived.Deep.CutRange
import Derived.Deep.CutBlock
import Derived.Deep.LoopGhost
import Derived.OwnWalk
import Derived.Test.YtbdhlfklcdegdaaGreatDoorWBL
import Derived.Test.YtbdhlfklcdegdaaGreatDoorWBH
namespace Go.Proofs.YtbdhlfklcdegdaaGreatDoor
open Go.RowKit Go.Deep
theorem srow64_empty (w:World):Row64 w.heap.size (w.alloc (.cells #[] 24)) (.slice (some ⟨w.heap.size,0,none⟩) 0 0) []:=by
 refine ⟨rfl,.inr ⟨w.heap.size,0,#[],rfl,Nat.le_refl _,?_,Nat.le_refl _,by simp only [maxLen];omega,rfl,rfl⟩⟩
 show (w.heap.push _)[w.heap.size]?=_
 rw [Array.getElem?_push,if_pos rfl]
theorem srow8_empty (w:World):Row8 w.heap.size (w.alloc (.cells #[] 5)) (.slice (some ⟨w.heap.size,0,none⟩) 0 0) []:=by
 refine ⟨rfl,.inr ⟨w.heap.size,0,#[],rfl,Nat.le_refl _,?_,Nat.le_refl _,by simp only [maxLen];omega,rfl,rfl⟩⟩
 show (w.heap.push _)[w.heap.size]?=_
 rw [Array.getElem?_push,if_pos rfl]
theorem alloc_bs (w:World) (A:Obj):Below w.heap.size w (w.alloc A):=Below.alloc (w:=w) (Below.refl w.heap.size w) (Nat.le_refl _) A
theorem smake0 (c:Nat) (hc:c≤1000000) (w:World):(Instr.makeSlice 146 (.int .i64 0) (.int .i64 (c:Int))).run Tryz.prog w=.ok (.slice (some ⟨w.heap.size,0,none⟩) 0 c) (w.alloc (.cells (madeCells #[.int .u8 0] c) 5))∧Row8 w.heap.size (w.alloc (.cells (madeCells #[.int .u8 0] c) 5)) (.slice (some ⟨w.heap.size,0,none⟩) 0 c) []:=by
 obtain ⟨i,hi,hz⟩:=Option.map_eq_some_iff.1 info8
 simp only [Prod.mk.injEq] at hz
 obtain ⟨z1,z2,z3⟩:=hz
 have hr:=run_make (P:=Tryz.prog) w 146 5 i (.int .u8 0) Tryz.underlying146 hi z1 .i64 .i64 0 (c:Int) (Int.le_refl _) (by omega) (by rw [z3];omega) (by omega)
 rw [z2] at hr
 simp only [Int.toNat_zero,Int.toNat_natCast,Nat.mul_one] at hr
 exact ⟨hr,World.ownsRow_made w _ c (Nat.le_refl _) (by simp only [maxLen];omega) (by rw [size_madeCells,Nat.mul_one])⟩
theorem lets_b (up:Bool) (ds:List Int):∀x∈lets (lettersOf up) ds,0≤x∧x<256:=by
 intro x hx
 obtain ⟨d,_,rfl⟩:=List.mem_map.1 hx
 have k:∀(l:List Int),(∀y∈l,0≤y∧y<256)→0≤l.getD d.toNat 0∧l.getD d.toNat 0<256:=by
  intro l hl
  rw [List.getD_eq_getElem?_getD]
  cases h:l[d.toNat]? with
  | none=>simp
  | some y=>exact hl y (List.mem_of_getElem? h)
 apply k
 cases up
 ·show ∀y∈smallL,_
  decide
 ·show ∀y∈capL,_
  decide
def InTold (za:List Int) (B:Int) (up:Bool) (w:World) (e:Ending) (w':World):Prop:=∃s xs E,e=.returned (.tuple #[.string s,.int .i64 E])∧Str s xs∧InIs za B up xs E∧Below w.heap.size w w'
set_option maxRecDepth 100000 in
set_option maxHeartbeats 8000000 in
theorem sinBase_any (p:Option Addr) (n cap:Nat) (za:List Int) (B:Int) (up:Bool) (w:World) (ha:Arg w p n cap za):
  Calls Tryz.prog 140 #[.slice p n cap,.int .i64 B,.bool up] w fun e w'=>InTold za B up w e w':=by
 obtain ⟨a1,a2,a3,a4,a5⟩:=ha
 have LM:=hid (slimbs_any p n cap za w a1 (by omega) a4)
 have BR:=hid (Below.refl w.heap.size w)
 by_cases hb:4096<Nm.tsize za
 ·have F:Hid (InTold za B up w (.returned (.tuple #[.string ⟨#[]⟩,.int .i64 2])) w):=⟨_,[],_,rfl,rfl,.big hb,BR.out⟩
  have hbi:(4096:Int)<(Nm.tsize za:Int):=by omega
  clear a1 a2 a3 a4 a5 hb
  go_enter Tryz.func140,Tryz.ntmps140
  go_wp2_with fail
  with_reducible refine LM.out.mono ?_
  rintro e w1 ⟨rfl,e1⟩
  rw [e1]
  go_wp2_with fail
  go_ret2
  exact F.out
 have hbi:¬(4096:Int)<(Nm.tsize za:Int):=by omega
 by_cases h2:B<2
 ·have F:Hid (InTold za B up w (.returned (.tuple #[.string ⟨#[]⟩,.int .i64 32])) w):=⟨_,[],_,rfl,rfl,.base (by omega) (.inl h2),BR.out⟩
  clear a1 a2 a3 a4 a5 hb
  go_enter Tryz.func140,Tryz.ntmps140
  go_wp2_with fail
  with_reducible refine LM.out.mono ?_
  rintro e w1 ⟨rfl,e1⟩
  rw [e1]
  go_wp2_with fail
  go_ret2
  exact F.out
 by_cases h36:36<B
 ·have F:Hid (InTold za B up w (.returned (.tuple #[.string ⟨#[]⟩,.int .i64 32])) w):=⟨_,[],_,rfl,rfl,.base (by omega) (.inr h36),BR.out⟩
  clear a1 a2 a3 a4 a5 hb
  go_enter Tryz.func140,Tryz.ntmps140
  go_wp2_with fail
  with_reducible refine LM.out.mono ?_
  rintro e w1 ⟨rfl,e1⟩
  rw [e1]
  go_wp2_with fail
  go_ret2
  exact F.out
 have B2:2≤B:=by omega
 have B36:B≤36:=by omega
 have GR:=hid (sgroup_any B w B2 B36)
 obtain ⟨V,hV⟩:∃V,V=Nm.val za:=⟨_,rfl⟩
 have v0:=(Nm.val_bd za a5).1
 have tz:=Nm.tsize_zero_iff a5
 have tl:=Nm.tsize_le za
 have TZV:Hid (V=0→Nm.tsize za=0):=fun q=>tz.2 (by rw [←hV];exact q)
 have ZR0:Hid (V=0→∀w',Below w.heap.size w w'→InTold za B up w (.returned (.tuple #[.string ⟨#[48]⟩,.int .i64 0])) w'):=fun q w' k=>⟨_,[48],_,rfl,rfl,.zero (tz.2 (by rw [←hV];exact q)) B2 B36,k⟩
 have FI0:Hid (∀T mm s,V<B^T→V≠0→mm≤T→(∀s,mm≤s→s<T→V/B^s%B=0)→(mm≤1∨V/B^(mm - 1)%B≠0)→Str s (lets (lettersOf up) (Dn.dg B mm V))→∀w',Below w.heap.size w w'→InTold za B up w (.returned (.tuple #[.string s,.int .i64 0])) w'):=by
  intro T mm s hT vne hm hz ht hs w' k
  refine ⟨s,_,_,rfl,hs,?_,k⟩
  rw [←Gn.strip_is (by omega) (by omega) hm hT hz ht,hV]
  exact .ok T (by omega) (by omega) B2 B36 (by rw [←hV];exact hT)
 have TZ:Hid (∀j,Nm.tsize za≤j→za.getD j 0=0):=Nm.tsize_zero za
 have DZ:Hid (Nm.val (za.drop (Nm.tsize za))=0):=by
  have e:=Nm.val_drop za (Nm.tsize za) tl
  have e2:=Nm.val_trim za
  unfold Nm.trim at e2
  rw [e2] at e
  have pp:=Nm.pw_pos (Nm.tsize za)
  have:Nm.pw (Nm.tsize za)*Nm.val (za.drop (Nm.tsize za))=0:=by omega
  rcases Int.mul_eq_zero.1 this with q | q
  ·omega
  ·exact q
 have DN:Hid (∀j,j<za.length→Nm.val (za.drop j)=za.getD j 0+18446744073709551616*Nm.val (za.drop (j+1))):=by
  intro j hj
  rw [List.drop_eq_getElem_cons hj,Nm.val,List.getD_eq_getElem?_getD,List.getElem?_eq_getElem hj]
  rfl
 have LB:Hid (∀j,0≤za.getD j 0∧za.getD j 0<18446744073709551616):=fun j=>a5.at j
 have HA:Hid (Lies w p za):=a4
 have TT:Hid (Nm.tsize za≤4096):=by show _≤_;omega
 have TL:Hid (Nm.tsize za≤za.length):=tl
 have VD:Hid (Nm.val (za.drop 0)=V):=by rw [Hid,List.drop_zero,hV]
 have V0:Hid (0≤V):=by rw [hV];exact v0
 have nl:(n:Int)≤17592186044416:=by omega
 clear a2 a4 a5 hb h2 h36 v0 tz tl hV
 have DB:Hid (0<B∧B≤36):=⟨by omega,B36⟩
 have NL:Hid (za.length=n):=a1
 clear a1
 go_enter Tryz.func140,Tryz.ntmps140
 go_wp2_with fail
 with_reducible refine LM.out.mono ?_
 rintro e w1 ⟨rfl,e1⟩
 rw [e1]
 clear e1 LM w1
 obtain ⟨tN,HT⟩:∃tN,Hid (tN=Nm.tsize za):=⟨_,rfl⟩
 rw [←HT.out] at hbi TZ DZ TT TL TZV
 rw [←HT.out]
 clear HT
 go_wp2_with fail
 with_reducible refine GR.out.mono ?_
 rintro e w1 ⟨⟨k,P,rfl,hP,k30,P1,P2,P3⟩,e1⟩
 rw [e1]
 clear e1 w1 GR
 have P4:65536≤P:=by
  have:P*B≤P*36:=Int.mul_le_mul_of_nonneg_left B36 (by omega)
  omega
 have HP:=hid hP
 have R0:=hid (srow64_empty w)
 have A0:=hid (alloc_bs w (.cells #[] 24))
 have tNi:(tN:Int)≤4096:=by have:=TT.out;omega
 clear hP P3
 go_upto_region 8 with fail
 generalize (w.alloc (.cells #[] 24))=wG at *
 go_wp2_with fail
 go_loopg [11,12] tN (fun m gq iv wr=>∃(mv:Value) (gs:List Int) (c:Int),gq=mv∧iv=.int .i64 c∧c=(m:Int) - 1∧Hid (m≤tN∧Row64 w.heap.size wr mv gs∧Gn.Digs P gs∧Gn.gv P gs=Nm.val (za.drop m)∧gs.length≤4*(tN - m)∧Below w.heap.size w wr))
 case atStart=>exact ⟨_,[],_,rfl,rfl,rfl,Nat.le_refl _,R0.out,(by intro z hz;simp at hz),by rw [DZ.out];rfl,by simp,A0.out⟩
 case round=>
  obtain ⟨mv,gs,c,hmv,rfl,hc,I⟩:=hrel
  have hmv:=hmv.symm
  subst hmv
  clear R0 A0
  cases gk with
  | succ r=>
   obtain rfl:c=(r:Int):=by omega
   clear hc
   have rt:r<tN:=by have:=I.out.1;omega
   have rl:r<za.length:=by have:=TL.out;omega
   have rn:(r:Int)<(n:Int):=by have:=NL.out;omega
   have r0:0≤(r:Int):=by omega
   obtain ⟨b,off,hp,hcell⟩:∃b off,p=some ⟨b,off,none⟩∧∀i,i<za.length→w.cell? ⟨b,off+i,none⟩=some (.int .u64 (za.getD i 0)):=by
    rcases HA.out with q | q
    ·rw [q] at rl;simp at rl
    ·exact q
   subst hp
   have c0:=hcell r rl
   have lt0:=cell_lt c0
   have CC:Hid (∀wk,Below w.heap.size w wk→wk.cell? ⟨b,off+r,none⟩=some (.int .u64 (za.getD r 0))):=fun wk hk=>by rw [hk.cell (p:=⟨b,off+r,none⟩) lt0];exact c0
   have c1:=CC.out wr I.out.2.2.2.2.2
   have xb:=LB.out r
   have DNR:=hid (DN.out r rl)
   generalize za.getD r 0=x at *
   obtain ⟨x0,x1⟩:=xb
   have rm:=r_mask32S x x0 x1
   obtain ⟨hi,hhi,HI⟩:∃hi,x/4294967296=hi∧Hid (hi=x/4294967296):=⟨_,rfl,rfl⟩
   obtain ⟨lo,hlo,LO⟩:∃lo,x%4294967296=lo∧Hid (lo=x%4294967296):=⟨_,rfl,rfl⟩
   have hib:0≤hi∧hi<4294967296:=by rw [←hhi];omega
   have lob:0≤lo∧lo<4294967296:=by rw [←hlo];omega
   have T1:=hid (stimes_any w.heap.size mv gs P hi wr I.out.2.1 I.out.2.2.1 (by have:=I.out.2.2.2.2.1;have:=TT.out;omega) P4 P2 hib.1 hib.2 I.out.2.2.2.2.2.size)
   have T2:=hid (fun mv' gs' wk r1 r2 r3 r4=>stimes_any w.heap.size mv' gs' P lo wk r1 r2 r3 P4 P2 lob.1 lob.2 r4)
   rw [hlo] at rm
   have TTH:=TT
   clear hcell c0 lt0 hib lob ZR0 FI0 DN
   go_wp2_with fail
   with_reducible refine T1.out.mono ?_
   rintro e w2 ⟨mv1,gs1,rfl,q1,q2,q3,q4,q5⟩
   have I2:Hid (r+1≤tN∧Row64 w.heap.size w2 mv1 gs1∧Gn.Digs P gs1∧Gn.gv P gs1=4294967296*Nm.val (za.drop (r+1))+hi∧gs1.length≤4*(tN - (r+1))+2∧Below w.heap.size w w2):=⟨I.out.1,q1,q2,by rw [q3,I.out.2.2.2.1],by have:=I.out.2.2.2.2.1;omega,I.out.2.2.2.2.2.trans q5⟩
   have c2:=CC.out w2 I2.out.2.2.2.2.2
   have T3:=hid (T2.out mv1 gs1 w2 q1 q2 (by have:=I2.out.2.2.2.2.1;have:=TT.out;omega) I2.out.2.2.2.2.2.size)
   clear q1 q2 q3 q4 q5 T1 T2 I c1
   go_wp2_with fail
   with_reducible refine T3.out.mono ?_
   rintro e w3 ⟨mv2,gs2,rfl,q1,q2,q3,q4,q5⟩
   have F:Hid (r≤tN∧Row64 w.heap.size w3 mv2 gs2∧Gn.Digs P gs2∧Gn.gv P gs2=Nm.val (za.drop r)∧gs2.length≤4*(tN - r)∧Below w.heap.size w w3):=⟨by omega,q1,q2,by rw [q3,I2.out.2.2.2.1,DNR.out,HI.out,LO.out];omega,by have:=I2.out.2.2.2.2.1;omega,I2.out.2.2.2.2.2.trans q5⟩
   clear q1 q2 q3 q4 q5 T3 I2 c2 hhi hlo rm
   go_wp2_with fail
   go_roundg r
   case measure=>omega
   case rel=>exact ⟨mv2,gs2,_,rfl,rfl,by omega,F.out⟩
  | zero=>
   obtain rfl:c=-1:=by omega
   clear hc
   obtain ⟨wE,rfl⟩:∃wE,wE=wr:=⟨wr,rfl⟩
   obtain ⟨-,g1,g2,g3,g4,g5⟩:=I.out
   rw [VD.out] at g3
   have B1:=hid g5
   obtain ⟨pm,cp,es⟩:=g1.shape
   obtain ⟨G,HG⟩:∃G,Hid (gs.length=G):=⟨_,rfl⟩
   rw [HG.out] at es
   have GB:Hid (G≤16384):=by have:=TT.out;have:=HG.out;show _≤_;omega
   have Gi:(G:Int)≤16384:=by have:=GB.out;omega
   have CG:Hid (gs≠[]→∃gb,pm=some ⟨gb,0,none⟩∧∀wk,Below wE.heap.size wE wk→∀i,i<G→wk.cell? ⟨gb,i,none⟩=some (.int .u64 (gs.getD i 0))):=by
    intro q
    obtain ⟨gb,cp',e2,cl⟩:=g1.cells q
    rw [HG.out,es] at e2
    cases e2
    refine ⟨gb,rfl,fun wk hk i hi=>?_⟩
    have c:=cl i (by rw [HG.out];exact hi)
    rw [Nat.zero_add] at c
    rw [hk.cell (p:=⟨gb,i,none⟩) (cell_lt c)]
    exact c
   have DG:Hid (∀i j,i<G→j<k→gs.getD i 0/B^j%B=V/B^(i*k+j)%B):=by
    intro i j hi hj
    rw [←g3]
    exact Gn.dig_at DB.out.1 HP.out gs g2 i j (by rw [HG.out];exact hi) hj
   have GBD:Hid (∀i,0≤gs.getD i 0∧gs.getD i 0<P):=fun i=>Gn.Digs.at g2 (by omega) i
   obtain ⟨T,HT⟩:∃T,Hid (T=G*k):=⟨_,rfl⟩
   have VT:Hid (V<B^T):=by
    have q:=(Gn.gv_lt (by omega) gs g2).2
    rw [g3,HG.out,HP.out,←Int.pow_mul,Nat.mul_comm k G,←HT.out] at q
    exact q
   have TB:Hid (T≤491520):=by
    have h1:=GB.out
    have h2:G*k≤16384*30:=Nat.mul_le_mul h1 k30
    rw [←HT.out] at h2
    exact h2
   have ZR:Hid (T=0→∀w',Below w.heap.size w w'→InTold za B up w (.returned (.tuple #[.string ⟨#[48]⟩,.int .i64 0])) w'):=by
    intro q
    have v:=VT.out
    rw [q,Int.pow_zero] at v
    exact ZR0.out (by have:=V0.out;omega)
   have FI:Hid (V≠0→∀mm s,mm≤T→(∀s,mm≤s→s<T→V/B^s%B=0)→(mm≤1∨V/B^(mm - 1)%B≠0)→Str s (lets (lettersOf up) (Dn.dg B mm V))→∀w',Below w.heap.size w w'→InTold za B up w (.returned (.tuple #[.string s,.int .i64 0])) w'):=fun q mm s=>FI0.out T mm s VT.out q
   have VN:Hid (T≠0→V≠0):=by
    intro q v
    have z:=TZV.out v
    have:G=0:=by have:=HG.out;omega
    apply q
    rw [HT.out,this,Nat.zero_mul]
   have R8:=hid (srow8_empty wE)
   have A8:=hid (alloc_bs wE (.cells #[] 5))
   have BZ:Hid (w.heap.size≤wE.heap.size):=B1.out.size
   have TI:Hid (∀i j,i<G→j<k→i*k+j<491520):=by
    intro i j hi hj
    have h1:(i+1)*k≤G*k:=Nat.mul_le_mul_right k hi
    rw [Nat.succ_mul] at h1
    have:=TB.out
    have:=HT.out
    omega
   have gne:Hid (0<G→gs≠[]):=fun h q=>by have:=HG.out;rw [q] at this;simp at this;omega
   have PB:Hid (P<2147483648):=P2
   have ki:(k:Int)≤30:=by omega
   subst es
   clear I g1 g2 g3 g4 g5 VD FI0 ZR0 TZV VT HG GB HA DZ DN TZ LB TL TT NL hbi tNi nl P1 P2 P4 HP k30 V0
   go_upto_region 14 with fail
   generalize (wE.alloc (.cells #[] 5))=wB at *
   go_wp2_with fail
   go_loopg [13,14,15,16] G (fun m bv iv gq jq wk=>∃(mv':Value) (i:Nat),bv=mv'∧i+m=G∧iv=.int .i64 (i:Int)∧Hid (Row8 wE.heap.size wk mv' (Gn.bk B V up (i*k))∧Below wE.heap.size wE wk))
   case atStart=>exact ⟨_,0,rfl,by omega,rfl,by rw [Nat.zero_mul];exact R8.out,A8.out⟩
   case round=>
    obtain ⟨mvb,i,hmvb,hi,rfl,I⟩:=hrel
    have hmvb:=hmvb.symm
    subst hmvb
    clear R8 A8
    by_cases il:i<G
    ·have ili:(i:Int)<(G:Int):=by omega
     obtain ⟨gb,hpm,cl⟩:=CG.out (gne.out (by omega))
     subst hpm
     have c0:=cl wr I.out.2 i il
     have gbd:=GBD.out i
     have DGI:=hid (fun j hj=>DG.out i j il hj)
     have TII:=hid (fun j hj=>TI.out i j il hj)
     generalize gs.getD i 0=g0 at *
     obtain ⟨gb0,gb1⟩:=gbd
     have GH:Hid (0≤g0∧g0<2147483648):=⟨gb0,by have:=PB.out;omega⟩
     clear cl CG DG GBD TI gb1 FI ZR VN
     go_wp2_with fail
     go_loopg [13,15,16] k (fun m bv gq jq wk=>∃(mv':Value) (j:Nat) (q:Int),bv=mv'∧j+m=k∧jq=.int .i64 (j:Int)∧gq=.int .u64 q∧Hid (q=g0/B^j∧Row8 wE.heap.size wk mv' (Gn.bk B V up (i*k+j))∧Below wE.heap.size wE wk))
     case atStart=>exact ⟨_,0,g0,rfl,by omega,rfl,rfl,by rw [Int.pow_zero,Int.ediv_one],I.out.1,I.out.2⟩
     case round=>
      obtain ⟨mvc,j,q,hmvc,hj,rfl,rfl,J⟩:=hrel
      have hmvc:=hmvc.symm
      subst hmvc
      clear c0 I
      by_cases jl:j<k
      ·have jli:(j:Int)<(k:Int):=by omega
       have qb:0≤q∧q<2147483648:=by
        rw [J.out.1]
        have pp:0<B^j:=Int.pow_pos DB.out.1
        have h1:=Int.ediv_nonneg GH.out.1 (Int.le_of_lt pp)
        have h2:g0/B^j≤g0:=Int.ediv_le_self _ GH.out.1
        have:=GH.out.2
        omega
       obtain ⟨d,hd,HD⟩:∃d,q%B=d∧Hid (d=q%B):=⟨_,rfl,rfl⟩
       obtain ⟨q2,hq2,HQ⟩:∃q2,q/B=q2∧Hid (q2=q/B):=⟨_,rfl,rfl⟩
       have db:0≤d∧d<36:=by
        rw [←hd]
        have h1:=Int.emod_nonneg q (show B≠0 by omega)
        have h2:=Int.emod_lt_of_pos q DB.out.1
        have:=DB.out.2
        omega
       obtain ⟨db0,db1⟩:=db
       obtain ⟨qb0,qb1⟩:=qb
       have q2b:0≤q2:=by rw [←hq2];exact Int.ediv_nonneg qb0 (by omega)
       have SD:=hid (fun W'=>sdigit_any d up W' db0 db1)
       have ed:d=V/B^(i*k+j)%B:=by rw [HD.out,J.out.1];exact DGI.out j jl
       obtain ⟨mv',w2,ap,r2,z2,b2,_⟩:=J.out.2.1.push (dgt d up) (by rw [Gn.bk_len];have:=TII.out j jl;omega) J.out.2.2.size
       have F:Hid (q2=g0/B^(j+1)∧Row8 wE.heap.size w2 mv' (Gn.bk B V up (i*k+(j+1)))∧Below wE.heap.size wE w2):=by
        refine ⟨?_,?_,J.out.2.2.trans b2⟩
        ·rw [HQ.out,J.out.1,Int.ediv_ediv_of_nonneg (Int.le_of_lt (Int.pow_pos DB.out.1)),Int.pow_succ]
        ·rw [←Nat.add_assoc,Gn.bk,←ed];exact r2
       have AP:=hid ap
       clear ap r2 z2 b2 ed J DGI TII GH
       generalize dgt d up=xd at *
       go_wp2_with fail
       with_reducible refine (SD.out _).mono ?_
       rintro e w9 ⟨rfl,e9⟩
       rw [e9]
       clear e9 w9 SD
       go_wp2_with (at_builtin;refine wpList_append_b rfl _ _ rfl AP.out (by rfl) (by rfl) ?_;clear AP)
       go_roundg (k - (j+1))
       case measure=>omega
       case rel=>exact ⟨mv',j+1,q2,rfl,by omega,by go_num,by rw [HQ.out],F.out⟩
      ·have jli:¬(j:Int)<(k:Int):=by omega
       have F:Hid (Row8 wE.heap.size wr mvc (Gn.bk B V up ((i+1)*k))∧Below wE.heap.size wE wr):=by
        have e:(i+1)*k=i*k+j:=by rw [Nat.succ_mul];omega
        rw [e]
        exact J.out.2
       clear J DGI TII GH
       go_wp2_with fail
       go_roundg (G - (i+1))
       case measure=>omega
       case rel=>exact ⟨mvc,i+1,rfl,by omega,by go_num,F.out⟩
    ·have ili:¬(i:Int)<(G:Int):=by omega
     have QS:Hid (Row8 wE.heap.size wr mvb (Gn.bk B V up T)∧Below wE.heap.size wE wr):=by
      have e:T=i*k:=by rw [HT.out,show i=G by omega]
      rw [e];exact I.out
     obtain ⟨pb,cb0,es3⟩:=QS.out.1.shape
     rw [Gn.bk_len] at es3
     subst es3
     have Ti:(T:Int)≤491520:=by have:=TB.out;omega
     clear I CG DG GBD TI gne PB HT
     go_wp2_with fail
     go_loopg [17] T (fun m mq wk=>mq=.int .i64 (m:Int)∧Hid (m≤T∧(∀s,m≤s→s<T→V/B^s%B=0)∧(m=0→T=0))∧Hid (Row8 wE.heap.size wk (.slice pb T cb0) (Gn.bk B V up T)∧Below wE.heap.size wE wk))
     case atStart=>exact ⟨rfl,⟨Nat.le_refl _,fun s a b=>by omega,fun q=>q⟩,QS.out⟩
     case round=>
      obtain ⟨rfl,M,Q0⟩:=hrel
      obtain ⟨mm,rfl⟩:∃mm,mm=gk:=⟨gk,rfl⟩
      clear QS
      by_cases m1:1<mm
      ·have m1i:(1:Int)<(mm:Int):=by omega
       have mT:mm≤T:=M.out.1
       have mTi:(mm:Int)≤(T:Int):=by omega
       obtain ⟨r,hr⟩:∃r:Nat,mm=r+1:=⟨mm - 1,by omega⟩
       have ri:(mm:Int) - 1=(r:Int):=by omega
       have rT:(r:Int)<(T:Int):=by omega
       have r0:0≤(r:Int):=by omega
       have bt0:Gn.bk B V up T≠[]:=fun q=>by have:=congrArg List.length q;rw [Gn.bk_len,List.length_nil] at this;omega
       obtain ⟨gc,cc,ec,cl⟩:=Q0.out.1.cells bt0
       rw [Gn.bk_len] at ec cl
       cases ec
       have c0:=cl r (by omega)
       rw [Nat.zero_add,Gn.bk_at B V up T r (by omega)] at c0
       have dd:=Gn.dgt_is (Gn.dig_bd DB.out.1 V r).1 (Int.lt_of_lt_of_le (Gn.dig_bd DB.out.1 V r).2 DB.out.2) up
       by_cases hz:V/B^r%B=0
       ·have e48:dgt (V/B^r%B) up=48:=dd.2.1.2 hz
        rw [e48] at c0
        have F:Hid (r≤T∧(∀s,r≤s→s<T→V/B^s%B=0)∧(r=0→T=0)):=⟨by omega,fun s a b=>by
         rcases Nat.lt_or_ge r s with q | q
         ·exact M.out.2.1 s (by omega) b
         ·rw [show s=r by omega];exact hz,fun q=>by omega⟩
        have WK:IntKind.i64.wrap ((mm:Int) - 1)=(r:Int):=by rw [IntKind.wrap_i64];omega
        clear M cl dd hz e48 bt0 ZR FI VN
        have HR:=hid hr
        clear hr
        go_wp2_with fail
        go_roundg r
        case measure=>have:=HR.out;omega
        case rel=>exact ⟨by go_num,F.out,Q0.out⟩
       ·have e48:dgt (V/B^r%B) up≠48:=fun q=>hz (dd.2.1.1 q)
        have m2:mm≤1∨V/B^(mm - 1)%B≠0:=.inr (by rw [hr,Nat.add_sub_cancel];exact hz)
        have M2:=hid m2
        generalize hx:dgt (V/B^r%B) up=x at *
        have x48:(x == 48)=false:=by simpa using e48
        have WK:IntKind.i64.wrap ((mm:Int) - 1)=(r:Int):=by rw [IntKind.wrap_i64];omega
        clear cl dd hz bt0 hx e48 m2 hr
        go_upto_region 26 with fail
        clear c0 x48 ri rT r0 WK m1i mTi
        have m2:=M2.out
        obtain ⟨wL,rfl⟩:∃wL,wL=wr:=⟨wr,rfl⟩
        obtain ⟨m0,m1,m3⟩:=M.out
        have Q:=hid Q0.out
        clear Q0 M
        by_cases mz:mm=0
        ·have F:=hid (ZR.out (m3 mz))
         subst mz
         have QB:=hid Q.out.2
         clear m0 m1 m2 m3 Q ZR FI
         go_wp2_with fail
         go_ret2
         exact F.out _ (B1.out.trans (QB.out.mono BZ.out))
        ·have mi:¬(mm:Int)=0:=by omega
         have mi2:((mm:Int) == 0)=false:=by simpa using mi
         have mb:(mm:Int)≤500000:=by have:=TB.out;omega
         have FX:=hid (fun s hs=>FI.out (VN.out (by omega)) mm s m0 m1 m2 hs)
         have mk:=(smake0 mm (by have:=TB.out;omega) wL).1
         have O0:=hid (smake0 mm (by have:=TB.out;omega) wL).2
         have A0:=alloc_b wL (.cells (madeCells #[.int .u8 0] mm) 5)
         have bt0:Gn.bk B V up T≠[]:=fun q=>by have:=congrArg List.length q;rw [Gn.bk_len,List.length_nil] at this;omega
         obtain ⟨gb,cb,eb,cells⟩:=Q.out.1.cells bt0
         rw [Gn.bk_len] at eb cells
         have CB:Hid (∀wk,Below wL.heap.size wL wk→∀s,s<T→wk.cell? ⟨gb,s,none⟩=some (.int .u8 (dgt (V/B^s%B) up))):=by
          intro wk hk s hs
          have c:=cells s hs
          rw [Nat.zero_add,Gn.bk_at B V up T s hs] at c
          rw [hk.cell (p:=⟨gb,s,none⟩) (cell_lt c)]
          exact c
         cases eb
         have HQ:=hid (B1.out.trans (Q.out.2.mono BZ.out))
         have MT:Hid (mm≤T):=m0
         have MZ:=hid mz
         have BW:Hid (w.heap.size≤wL.heap.size):=HQ.out.size
         have AX:=hid A0
         clear m0 m1 m2 m3 Q ZR FI mz mi cells bt0 A0 VN
         go_upto_region 29 with fail
         generalize hwx:(wL.alloc (.cells (madeCells #[.int .u8 0] mm) 5))=wM at *
         clear hwx mk
         go_wp2_with fail
         go_loopg [18,19] mm (fun r ov iv wk=>∃(mvo:Value) (c:Int),ov=mvo∧iv=.int .i64 c∧c=(r:Int) - 1∧Hid (r≤mm∧Row8 wL.heap.size wk mvo ((Gn.bk B V up mm).drop r).reverse∧Below wL.heap.size wL wk))
         case atStart=>
          refine ⟨_,_,rfl,rfl,by omega,Nat.le_refl _,?_,AX.out⟩
          rw [List.drop_of_length_le (by rw [Gn.bk_len];omega)]
          exact O0.out
         case round=>
          obtain ⟨mvo,c,hov,rfl,hc,I⟩:=hrel
          have hov:=hov.symm
          subst hov
          have CBH:=hid (fun s hs=>CB.out _ I.out.2.2 s hs)
          cases gk with
          | zero=>
           have hcn:¬0≤c:=by omega
           have R8:=I.out.2.1
           rw [List.drop_zero,Gn.bk_rev DB.out.1 V up mm,Gn.map_lets DB.out.1 DB.out.2 up mm V] at R8
           have ln:(lets (lettersOf up) (Dn.dg B mm V)).length=mm:=by rw [lets,List.length_map,Dn.dg_length]
           have ne:lets (lettersOf up) (Dn.dg B mm V)≠[]:=fun q=>by rw [q,List.length_nil] at ln;exact MZ.out ln.symm
           obtain ⟨go,co,eo,cl⟩:=R8.cells ne
           rw [ln] at eo cl
           have ST:=Str.of_nums (xs:=lets (lettersOf up) (Dn.dg B mm V)) (lets_b up _)
           have cv:(convert 146 9 mvo).run Tryz.prog wr=.ok (.string (strOfNums (lets (lettersOf up) (Dn.dg B mm V)))) wr:=by
            rw [eo]
            exact run_convert_bytes_arg (P:=Tryz.prog) wr 146 5 Tryz.underlying146 Tryz.underlying5 go 0 mm co _ ln (fun i hi=>cl i hi) 9 Tryz.underlying9
           have F:=hid (FX.out _ ST wr (HQ.out.trans (I.out.2.2.mono BW.out)))
           clear I CBH R8 ln ne cl ST CB FX eo
           generalize strOfNums (lets (lettersOf up) (Dn.dg B mm V))=SS at *
           go_wp2_with fail
           go_ret2
           exact F.out
          | succ r=>
           have hcr:c=(r:Int):=by omega
           have hr0:0≤(r:Int):=by omega
           have rm:r<mm:=by have:=I.out.1;omega
           have rT:r<T:=by have:=MT.out;omega
           have rTi:(r:Int)<(T:Int):=by omega
           have cr:=CBH.out r rT
           obtain ⟨mv',w2,ap,r2,z2,b2,_⟩:=I.out.2.1.push (dgt (V/B^r%B) up) (by rw [List.length_reverse,List.length_drop,Gn.bk_len];omega) I.out.2.2.size
           have ed:(Gn.bk B V up mm).drop r=dgt (V/B^r%B) up::(Gn.bk B V up mm).drop (r+1):=by
            rw [List.drop_eq_getElem_cons (by rw [Gn.bk_len];exact rm)]
            have:=Gn.bk_at B V up mm r rm
            rw [List.getD_eq_getElem?_getD,List.getElem?_eq_getElem (by rw [Gn.bk_len];exact rm)] at this
            rw [←this];rfl
           have F:Hid (r≤mm∧Row8 wL.heap.size w2 mv' ((Gn.bk B V up mm).drop r).reverse∧Below wL.heap.size wL w2):=⟨by omega,by rw [ed,List.reverse_cons];exact r2,I.out.2.2.trans b2⟩
           have AP:=hid ap
           clear ap r2 z2 b2 ed I CBH CB FX
           subst hcr
           clear hc
           generalize dgt (V/B^r%B) up=x at *
           go_wp2_with (at_builtin;refine wpList_append_b rfl _ _ rfl AP.out (by rfl) (by rfl) ?_;clear AP)
           go_roundg r
           case measure=>omega
           case rel=>exact ⟨mv',_,rfl,rfl,by omega,F.out⟩
      ·have m1i:¬(1:Int)<(mm:Int):=by omega
       have m2:mm≤1∨V/B^(mm - 1)%B≠0:=.inl (by omega)
       have M2:=hid m2
       clear m2
       go_upto_region 26 with fail
       have m2:=M2.out
       obtain ⟨wL,rfl⟩:∃wL,wL=wr:=⟨wr,rfl⟩
       obtain ⟨m0,m1,m3⟩:=M.out
       have Q:=hid Q0.out
       clear Q0 M
       by_cases mz:mm=0
       ·have F:=hid (ZR.out (m3 mz))
        subst mz
        have QB:=hid Q.out.2
        clear m0 m1 m2 m3 Q ZR FI
        go_wp2_with fail
        go_ret2
        exact F.out _ (B1.out.trans (QB.out.mono BZ.out))
       ·have mi:¬(mm:Int)=0:=by omega
        have mi2:((mm:Int) == 0)=false:=by simpa using mi
        have mb:(mm:Int)≤500000:=by have:=TB.out;omega
        have FX:=hid (fun s hs=>FI.out (VN.out (by omega)) mm s m0 m1 m2 hs)
        have mk:=(smake0 mm (by have:=TB.out;omega) wL).1
        have O0:=hid (smake0 mm (by have:=TB.out;omega) wL).2
        have A0:=alloc_b wL (.cells (madeCells #[.int .u8 0] mm) 5)
        have bt0:Gn.bk B V up T≠[]:=fun q=>by have:=congrArg List.length q;rw [Gn.bk_len,List.length_nil] at this;omega
        obtain ⟨gb,cb,eb,cells⟩:=Q.out.1.cells bt0
        rw [Gn.bk_len] at eb cells
        have CB:Hid (∀wk,Below wL.heap.size wL wk→∀s,s<T→wk.cell? ⟨gb,s,none⟩=some (.int .u8 (dgt (V/B^s%B) up))):=by
         intro wk hk s hs
         have c:=cells s hs
         rw [Nat.zero_add,Gn.bk_at B V up T s hs] at c
         rw [hk.cell (p:=⟨gb,s,none⟩) (cell_lt c)]
         exact c
        cases eb
        have HQ:=hid (B1.out.trans (Q.out.2.mono BZ.out))
        have MT:Hid (mm≤T):=m0
        have MZ:=hid mz
        have BW:Hid (w.heap.size≤wL.heap.size):=HQ.out.size
        have AX:=hid A0
        clear m0 m1 m2 m3 Q ZR FI mz mi cells bt0 A0 VN
        go_upto_region 29 with fail
        generalize hwx:(wL.alloc (.cells (madeCells #[.int .u8 0] mm) 5))=wM at *
        clear hwx mk
        go_wp2_with fail
        go_loopg [18,19] mm (fun r ov iv wk=>∃(mvo:Value) (c:Int),ov=mvo∧iv=.int .i64 c∧c=(r:Int) - 1∧Hid (r≤mm∧Row8 wL.heap.size wk mvo ((Gn.bk B V up mm).drop r).reverse∧Below wL.heap.size wL wk))
        case atStart=>
         refine ⟨_,_,rfl,rfl,by omega,Nat.le_refl _,?_,AX.out⟩
         rw [List.drop_of_length_le (by rw [Gn.bk_len];omega)]
         exact O0.out
        case round=>
         obtain ⟨mvo,c,hov,rfl,hc,I⟩:=hrel
         have hov:=hov.symm
         subst hov
         have CBH:=hid (fun s hs=>CB.out _ I.out.2.2 s hs)
         cases gk with
         | zero=>
          have hcn:¬0≤c:=by omega
          have R8:=I.out.2.1
          rw [List.drop_zero,Gn.bk_rev DB.out.1 V up mm,Gn.map_lets DB.out.1 DB.out.2 up mm V] at R8
          have ln:(lets (lettersOf up) (Dn.dg B mm V)).length=mm:=by rw [lets,List.length_map,Dn.dg_length]
          have ne:lets (lettersOf up) (Dn.dg B mm V)≠[]:=fun q=>by rw [q,List.length_nil] at ln;exact MZ.out ln.symm
          obtain ⟨go,co,eo,cl⟩:=R8.cells ne
          rw [ln] at eo cl
          have ST:=Str.of_nums (xs:=lets (lettersOf up) (Dn.dg B mm V)) (lets_b up _)
          have cv:(convert 146 9 mvo).run Tryz.prog wr=.ok (.string (strOfNums (lets (lettersOf up) (Dn.dg B mm V)))) wr:=by
           rw [eo]
           exact run_convert_bytes_arg (P:=Tryz.prog) wr 146 5 Tryz.underlying146 Tryz.underlying5 go 0 mm co _ ln (fun i hi=>cl i hi) 9 Tryz.underlying9
          have F:=hid (FX.out _ ST wr (HQ.out.trans (I.out.2.2.mono BW.out)))
          clear I CBH R8 ln ne cl ST CB FX eo
          generalize strOfNums (lets (lettersOf up) (Dn.dg B mm V))=SS at *
          go_wp2_with fail
          go_ret2
          exact F.out
         | succ r=>
          have hcr:c=(r:Int):=by omega
          have hr0:0≤(r:Int):=by omega
          have rm:r<mm:=by have:=I.out.1;omega
          have rT:r<T:=by have:=MT.out;omega
          have rTi:(r:Int)<(T:Int):=by omega
          have cr:=CBH.out r rT
          obtain ⟨mv',w2,ap,r2,z2,b2,_⟩:=I.out.2.1.push (dgt (V/B^r%B) up) (by rw [List.length_reverse,List.length_drop,Gn.bk_len];omega) I.out.2.2.size
          have ed:(Gn.bk B V up mm).drop r=dgt (V/B^r%B) up::(Gn.bk B V up mm).drop (r+1):=by
           rw [List.drop_eq_getElem_cons (by rw [Gn.bk_len];exact rm)]
           have:=Gn.bk_at B V up mm r rm
           rw [List.getD_eq_getElem?_getD,List.getElem?_eq_getElem (by rw [Gn.bk_len];exact rm)] at this
           rw [←this];rfl
          have F:Hid (r≤mm∧Row8 wL.heap.size w2 mv' ((Gn.bk B V up mm).drop r).reverse∧Below wL.heap.size wL w2):=⟨by omega,by rw [ed,List.reverse_cons];exact r2,I.out.2.2.trans b2⟩
          have AP:=hid ap
          clear ap r2 z2 b2 ed I CBH CB FX
          subst hcr
          clear hc
          generalize dgt (V/B^r%B) up=x at *
          go_wp2_with (at_builtin;refine wpList_append_b rfl _ _ rfl AP.out (by rfl) (by rfl) ?_;clear AP)
          go_roundg r
          case measure=>omega
          case rel=>exact ⟨mv',_,rfl,rfl,by omega,F.out⟩
set_option maxRecDepth 100000 in
theorem sdigits_any (p:Option Addr) (n cap:Nat) (za:List Int) (w:World) (ha:Arg w p n cap za):
  Calls Tryz.prog 84 #[.slice p n cap] w fun e w'=>InTold za 10 false w e w':=by
 have IB:=hid (sinBase_any p n cap za 10 false w ha)
 clear ha
 go_enter Tryz.func84,Tryz.ntmps84
 go_wp2_with fail
 with_reducible refine IB.out.mono ?_
 rintro e w1 ⟨s,xs,E,rfl,h1,h2,h3⟩
 have F:Hid (InTold za 10 false w (.returned (.tuple #[.string s,.int .i64 E])) w1):=⟨s,xs,E,rfl,h1,h2,h3⟩
 clear h1 h2 h3
 go_wp2_with fail
 go_ret2
 exact F.out
end Go.Proofs.YtbdhlfklcdegdaaGreatDoor

namespace Go.Proofs.YtbdhlfklcdegdaaGreatDoor
open Go Go.RowKit Go.Deep
theorem vminus {ys:List Int} (h:∀x∈ys,0≤x∧x<256):(⟨#[45]⟩:ByteArray)++strOfNums ys=strOfNums (45::ys):=by
 have a:Str ⟨#[45]⟩ [45]:=rfl
 have b:=Str.of_nums h
 have c:Str ((⟨#[45]⟩:ByteArray)++strOfNums ys) ([45]++ys):=by
  unfold Str at *
  rw [ByteArray.data_append,Array.toList_append,List.map_append,a,b]
 exact c.inj (Str.of_nums (fun x hx=>by
  rcases List.mem_cons.1 hx with q | q
  ·omega
  ·exact h x q))
theorem dl_by (u:Nat):∀x∈Sc.dl u,0≤x∧x<256:=fun x hx=>by have:=Sc.dg_iff.1 ((Sc.dl_is u).1 x hx);omega
theorem dl_le (u:Nat):(Sc.dl u).length≤u/10+1:=by
 induction u using Nat.strongRecOn with
 | _ u ih=>
  by_cases h:u<10
  ·rw [Sc.dl_small h];simp
  ·have:=ih (u/10) (by omega)
   rw [Sc.dl_big h,List.length_append]
   simp;omega
set_option maxRecDepth 100000 in
set_option maxHeartbeats 2000000 in
theorem vrint_any (d:Int) (w:World) (h0:0≤d) (h1:d<18446744073709551616):
  Calls Tryz.prog 42 #[.int .u64 d] w fun e w'=>e=.returned (.tuple #[.string (strOfNums (Va.tx d)),.bool (Va.ok d)])∧Below w.heap.size w w':=by
 have IG:=hid (zintegral_any d w h0 h1)
 have AB:=hid (fun W=>zabs_any d W h0 h1)
 obtain ⟨a,ha⟩:∃a,d%9223372036854775808=a:=⟨_,rfl⟩
 by_cases hi:Ie.intg d=true
 ·rw [hi] at IG
  rw [ha] at AB
  by_cases hb:a<4890909195324358656
  ·have ok1:Va.ok d=true:=by rw [Va.ok,hi,ha,decide_eq_true hb];rfl
   have bd:=Va.whp_bd ok1
   have hf:d%9223372036854775808<9218868437227405312:=by omega
   have WH:=hid (fun W=>zwhole_fin d W h0 h1 hf)
   have tx1:Va.tx d=itl (Va.num d):=if_pos ok1
   obtain ⟨u,hu⟩:=Int.eq_ofNat_of_zero_le bd.1
   have ub:(u:Int)<9223372036854775808:=by rw [←hu];exact bd.2
   rw [tx1,ok1]
   have NU:Va.num d=if 9223372036854775808≤d then -(u:Int) else (u:Int):=by rw [Va.num,hu]
   rw [NU]
   have nb:¬(4890909195324358656:Int)≤a:=by omega
   have DI:Hid (∀(W:World) (r:Option Addr) (os:List Int) (B:Nat),Ans B W r os (u:Int)→Calls Tryz.prog 84 #[.slice r (List.length os) (List.length os)] W fun e w'=>e=.returned (.tuple #[.string (strOfNums (Sc.dl u)),.int .i64 0])∧Below W.heap.size W w'):=by
    intro W r os B A
    have tl:Nm.tsize os≤1:=(Nm.tsize_le_iff A.2.1 1).2 (by rw [A.2.2.2.1];simp only [Nm.pw];omega)
    have ln:=A.2.2.1
    have ag:=A.arg (by omega)
    refine (sdigits_any r os.length os.length os W ag).mono ?_
    rintro e w' ⟨s,xs,E,rfl,hs,hI,hB⟩
    obtain ⟨e1,e2⟩:=Va.in_dl (u:=u) A.2.1 A.2.2.2.1 (by omega) hI
    rw [e1] at hs
    exact ⟨by rw [e2,hs.inj (Str.of_nums (dl_by u))],hB⟩
   unfold WholeTold at WH
   rw [ha] at WH
   rw [ha] at hu
   rw [hu] at WH
   by_cases hn:9223372036854775808≤d
   ·rw [if_pos hn]
    rw [decide_eq_true hn] at WH
    rcases Nat.eq_zero_or_pos u with z | z
    ·subst z
     have e0:itl (-((0:Nat):Int))=Sc.dl 0:=Va.itl_nn 0
     have e48:Sc.dl 0=[48]:=Sc.dl_small (by omega)
     rw [e0,e48]
     rw [e48] at DI
     have es:strOfNums [48]=⟨#[48]⟩:=rfl
     rw [es] at DI ⊢
     clear ok1 tx1 bd hf hb hi ha hu NU e0 e48 es hn h0 h1 ub
     go_enter Tryz.func42,Tryz.ntmps42
     go_wp2_with fail
     refine IG.out.mono ?_
     rintro e w1 ⟨rfl,b1⟩
     have B1:=hid b1
     clear b1 IG
     go_wp2_with (go_at_call 77;refine (AB.out _).mono ?_;rintro e w2 ⟨rfl,hw2⟩;rw [hw2];clear hw2 w2)
     refine (WH.out _).mono ?_
     rintro e w2 ⟨r,os,rfl,A,b2⟩
     have B2:=hid (below_on B1.out b2)
     have D2:=hid (DI.out _ _ _ _ A)
     clear b2 B1 WH A DI
     go_wp2_with fail
     refine D2.out.mono ?_
     rintro e w3 ⟨rfl,b3⟩
     have B3:=hid (below_on B2.out b3)
     clear b3 B2 D2
     go_wp2_with fail
     go_ret2
     exact ⟨rfl,B3.out⟩
    ·have e0:itl (-(u:Int))=45::Sc.dl u:=Va.itl_ng z
     rw [e0,←vminus (dl_by u)]
     have ne:((strOfNums (Sc.dl u)).toList == (⟨#[48]⟩:ByteArray).toList)=false:=by
      rw [(Str.of_nums (dl_by u)).eq (show Str ⟨#[48]⟩ [48] from rfl)]
      refine decide_eq_false (fun q=>?_)
      obtain ⟨c,l,e,c1,c2⟩:=Dr.dl_head u z
      rw [e] at q
      simp at q
      omega
     have e48:(⟨#[48]⟩:ByteArray).toList=[48]:=by rw [ByteArray.toList_eq]
     have ne2:((strOfNums (Sc.dl u)).toList == [48])=false:=by rw [←e48];exact ne
     have ls:=(Str.of_nums (dl_by u)).size
     have ln:=dl_le u
     have CAT:∀wx,(Op.stringOp .add ⟨#[45]⟩ (strOfNums (Sc.dl u))).run Tryz.prog wx=.ok (.string (⟨#[45]⟩++strOfNums (Sc.dl u))) wx:=fun wx=>run_string_add_sum wx _ _ (by rw [ls];show 1+_≤_;omega)
     clear ok1 tx1 bd hf hb hi ha hu NU e0 hn h0 h1 ls ln z ub ne e48
     generalize strOfNums (Sc.dl u)=S at *
     go_enter Tryz.func42,Tryz.ntmps42
     go_wp2_with fail
     refine IG.out.mono ?_
     rintro e w1 ⟨rfl,b1⟩
     have B1:=hid b1
     clear b1 IG
     go_wp2_with (go_at_call 77;refine (AB.out _).mono ?_;rintro e w2 ⟨rfl,hw2⟩;rw [hw2];clear hw2 w2)
     refine (WH.out _).mono ?_
     rintro e w2 ⟨r,os,rfl,A,b2⟩
     have B2:=hid (below_on B1.out b2)
     have D2:=hid (DI.out _ _ _ _ A)
     clear b2 B1 WH A DI
     go_wp2_with fail
     refine D2.out.mono ?_
     rintro e w3 ⟨rfl,b3⟩
     have B3:=hid (below_on B2.out b3)
     clear b3 B2 D2
     go_wp2_with fail
     go_ret2
     exact ⟨rfl,B3.out⟩
   ·rw [if_neg hn]
    rw [decide_eq_false hn] at WH
    rw [Va.itl_nn u]
    clear ok1 tx1 bd hf hb hi ha hu NU hn h0 h1 ub
    generalize strOfNums (Sc.dl u)=S at *
    go_enter Tryz.func42,Tryz.ntmps42
    go_wp2_with fail
    refine IG.out.mono ?_
    rintro e w1 ⟨rfl,b1⟩
    have B1:=hid b1
    clear b1 IG
    go_wp2_with (go_at_call 77;refine (AB.out _).mono ?_;rintro e w2 ⟨rfl,hw2⟩;rw [hw2];clear hw2 w2)
    refine (WH.out _).mono ?_
    rintro e w2 ⟨r,os,rfl,A,b2⟩
    have B2:=hid (below_on B1.out b2)
    have D2:=hid (DI.out _ _ _ _ A)
    clear b2 B1 WH A DI
    go_wp2_with fail
    refine D2.out.mono ?_
    rintro e w3 ⟨rfl,b3⟩
    have B3:=hid (below_on B2.out b3)
    clear b3 B2 D2
    go_wp2_with fail
    go_ret2
    exact ⟨rfl,B3.out⟩
  ·have ok1:Va.ok d=false:=by rw [Va.ok,ha,decide_eq_false hb,Bool.and_false]
   have tx1:Va.tx d=[]:=if_neg (by rw [ok1];decide)
   have nb:(4890909195324358656:Int)≤a:=by omega
   rw [ok1,tx1]
   clear ok1 tx1 hb hi ha h0 h1
   go_enter Tryz.func42,Tryz.ntmps42
   go_wp2_with fail
   refine IG.out.mono ?_
   rintro e w1 ⟨rfl,b1⟩
   have B1:=hid b1
   clear b1 IG
   go_wp2_with (go_at_call 77;refine (AB.out _).mono ?_;rintro e w2 ⟨rfl,hw2⟩;rw [hw2];clear hw2 w2)
   go_ret2
   exact ⟨rfl,B1.out⟩
 ·have hif:Ie.intg d=false:=by simpa using hi
  have ok1:Va.ok d=false:=by rw [Va.ok,hif,Bool.false_and]
  have tx1:Va.tx d=[]:=if_neg (by rw [ok1];decide)
  rw [hif] at IG
  rw [ok1,tx1]
  clear ok1 tx1 hif hi ha h0 h1
  go_enter Tryz.func42,Tryz.ntmps42
  go_wp2_with fail
  refine IG.out.mono ?_
  rintro e w1 ⟨rfl,b1⟩
  have B1:=hid b1
  clear b1 IG
  go_wp2_with fail
  go_ret2
  exact ⟨rfl,B1.out⟩
end Go.Proofs.YtbdhlfklcdegdaaGreatDoor
