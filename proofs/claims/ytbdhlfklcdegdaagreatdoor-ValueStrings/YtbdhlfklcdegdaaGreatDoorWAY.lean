/-
  Texts put together: ZRef2, STimes.
-/
import Derived.Test.YtbdhlfklcdegdaaGreatDoorWAS
import Derived.Test.YtbdhlfklcdegdaaGreatDoorWAQ
namespace Go.Proofs.YtbdhlfklcdegdaaGreatDoor
open Go.RowKit Go.Deep
theorem r_mask32 (x:Int) (h0:0≤x) (h1:x<18446744073709551616):bits .and .u64 x 4294967295=x%4294967296:=by
 obtain ⟨n,rfl⟩:=Int.eq_ofNat_of_zero_le h0
 have h:=bits_and_u64_nat n 4294967295 (by omega) (by omega)
 have e:n &&& 4294967295=n%4294967296:=Nat.and_two_pow_sub_one_eq_mod n 32
 rw [e] at h
 rw [show (4294967295:Int)=((4294967295:Nat):Int) from rfl,h]
 omega
theorem ret_len {p:Option Addr} {a b c:Nat} (h:a=b):Ending.returned (.slice p a c)=.returned (.slice p b c):=by rw [h]
def HalvesOf (w w':World) (n:Nat) (zs:List Int) (e:Ending):Prop:=
 ∃hs:List Int,e=.returned (.slice (some ⟨w.heap.size,0,none⟩) (List.length hs) (2*n))∧Lies w' (some ⟨w.heap.size,0,none⟩) hs∧Nm.Halves hs∧Nm.v32 hs=Nm.val zs∧hs.length≤2*Nm.tsize zs∧Below w.heap.size w w'
set_option maxRecDepth 100000 in
set_option maxHeartbeats 2000000 in
theorem halves_any (p:Option Addr) (n cap:Nat) (zs:List Int) (w:World) (ha:Arg w p n cap zs) (hn:n≤17592186044416):
  Calls Tryz.prog 190 #[.slice p n cap] w fun e w'=>HalvesOf w w' n zs e:=by
 obtain ⟨a1,a2,a3,a4,a5⟩:=ha
 have hmk:=make64_room (2*n) (by omega) w
 have bm:=hid ((Below.refl w.heap.size w).alloc (Nat.le_refl _) (.cells (madeCells #[.int .u64 0] (2*n)) 24))
 have gm:=hid (Grown.made w (2*n))
 rw [show ((2*n:Nat):Int)=2*(n:Int) by omega] at hmk
 generalize w.alloc (.cells (madeCells #[.int .u64 0] (2*n)) 24)=wm at hmk bm gm
 rcases a4 with rfl | ⟨b,off,rfl,hcell⟩
 ·have hn0:n=0:=by simpa using a1.symm
  subst hn0
  rw [show 2*((0:Nat):Int)=0 from rfl] at hmk
  have E:Hid (HalvesOf w wm 0 [] (.returned (.slice (some ⟨w.heap.size,0,none⟩) 0 0))):=⟨[],rfl,Lies.nil _ _,Nm.Halves.nil,rfl,by simp,bm.out⟩
  clear a1 a5 gm bm
  go_enter Tryz.func190,Tryz.ntmps190
  go_wp2
  refine wp_loop_rounds 1 ?_
  rw [rounds_succ]
  go_wp2
  refine wp_loop_rounds 1 ?_
  rw [rounds_succ]
  go_wp2
  go_ret
  exact E.out
 ·have H:Hid (zs.length=n):=a1
  have HC:Hid (∀i,i<zs.length→w.cell? ⟨b,off+i,none⟩=some (.int .u64 (zs.getD i 0))):=hcell
  have hbw:0<n→b<w.heap.size:=fun h=>cell_lt (hcell 0 (by omega))
  have HL:=hid a5
  clear a1 hcell a5
  go_enter Tryz.func190,Tryz.ntmps190
  go_wp2
  go_loopw [3,4] (fun a i wr=>∃(j:Nat) (hs:List Int),j≤n∧i=.int .i64 j∧a=.slice (some ⟨w.heap.size,0,none⟩) (2*j) (2*n)∧Hid (Grown wr w.heap.size hs (2*n - 2*j))∧Hid (hs.length=2*j)∧Hid (Nm.Halves hs)∧Hid (Nm.v32 hs=Nm.val (zs.take j))∧Below w.heap.size w wr) (fun _ i _=>n - (intOf i).toNat)
  case atStart=>exact ⟨0,[],Nat.zero_le _,rfl,rfl,gm.out,rfl,Nm.Halves.nil,rfl,bm.out⟩
  case round=>
   obtain ⟨j,hs,hj,rfl,rfl,G,L,HH,V,hB⟩:=hrel
   by_cases hlt:j<n
   ·have hbb:=hbw (by omega)
    obtain ⟨x,hx,X⟩:∃x,wr.cell? ⟨b,off+j,none⟩=some (.int .u64 x)∧Hid (x=zs.getD j 0):=⟨_,(hB.cell (p:=⟨b,off+j,none⟩) hbb).trans (HC.out j (by have:=H.out;omega)),rfl⟩
    have hx0:0≤x:=by have:=HL.out.at j;have:=X.out;omega
    have hx1:x<18446744073709551616:=by have:=HL.out.at j;have:=X.out;omega
    obtain ⟨lo,hlo,LO⟩:∃lo,bits .and .u64 x 4294967295=lo∧Hid (lo=x%4294967296):=⟨_,r_mask32 x hx0 hx1,rfl⟩
    obtain ⟨hi,hhi,HI⟩:∃hi,x/4294967296=hi∧Hid (hi=x/4294967296):=⟨_,rfl,rfl⟩
    have G':=G.out
    rw [show 2*n - 2*j=(2*n - 2*j - 1)+1 by omega] at G'
    obtain ⟨w2,ap,gr,be,sz⟩:=push64 w.heap.size (2*j) (2*n - 2*j - 1) (2*n) hs lo wr L.out (by omega) G'
    rw [show 2*n - 2*j - 1=(2*n - 2*j - 2)+1 by omega] at gr
    obtain ⟨w3,ap2,gr2,be2,sz2⟩:=push64 w.heap.size (2*j+1) (2*n - 2*j - 2) (2*n) (hs++[lo]) hi w2 (by simp [L.out]) (by omega) gr
    have hx2:w2.cell? ⟨b,off+j,none⟩=some (.int .u64 x):=(be.cell (p:=⟨b,off+j,none⟩) hbb).trans hx
    have AP:=hid ap
    have AP2:=hid ap2
    have GR:=hid gr2
    have BE:=hid ((hB.trans be).trans be2)
    have hlt':(j:Int)<(n:Int):=by omega
    clear ap ap2 gr gr2 be be2 sz sz2 hB G G'
    go_wp2_with (first | (at_builtin;refine wpList_append_row rfl _ _ rfl AP.out (by rfl) (by rfl) ?_;clear AP) | (at_builtin;refine wpList_append_row rfl _ _ rfl AP2.out (by rfl) (by rfl) ?_;clear AP2))
    go_roundw
    case rel=>
     refine ⟨j+1,hs++[lo]++[hi],by omega,by go_num,rfl,?_,?_,?_,?_,BE.out⟩
     ·have:=GR.out
      rw [show 2*n - 2*j - 2=2*n - 2*(j+1) by omega] at this
      exact this
     ·have:=L.out
      simp only [Hid,List.length_append,List.length_cons,List.length_nil]
      omega
     ·have:=LO.out
      have:=HI.out
      exact (HH.out.snoc (by omega) (by omega)).snoc (by omega) (by omega)
     ·rw [Hid,LO.out,HI.out]
      exact Nm.halves_step L.out (by have:=H.out;omega) X.out V.out
    case measure=>simp [intOf];omega
   ·obtain rfl:j=n:=by omega
    have V':Hid (Nm.v32 hs=Nm.val zs):=by have:=V.out;rw [List.take_of_length_le (by have:=H.out;omega)] at this;exact this
    have HC2:Hid (∀i,i<2*j→wr.cell? ⟨w.heap.size,i,none⟩=some (.int .u64 (hs.getD i 0))):=by
     intro i hi
     have h:=Own.cell G.out i (by have:=L.out;simp;omega)
     rw [h]
     simp only [List.getD,List.getElem?_append_left (show i<hs.length by have:=L.out;omega)]
    have GL:=hid G.out.lies
    have HB:=hid hB
    clear V G hB hmk gm bm
    go_wp2
    go_loop [5] (fun t=>∃k:Nat,k≤2*j∧t=.int .i64 k∧Hid (∀i,k≤i→hs.getD i 0=0)) (fun t=>(intOf t).toNat)
    case atStart=>exact ⟨2*j,Nat.le_refl _,by first | rfl | go_num,fun i hi=>by simp [List.getD,List.getElem?_eq_none (show hs.length≤i by have:=L.out;omega)]⟩
    case round=>
     obtain ⟨k,hk,rfl,hz⟩:=hrel
     have FIN:Hid (k≤2*Nm.tsize zs→HalvesOf w wr j zs (.returned (.slice (some ⟨w.heap.size,0,none⟩) k (2*j)))):=by
      intro hkt
      refine ⟨hs.take k,ret_len ?_,GL.out.take k,HH.out.take k,?_,?_,HB.out⟩
      ·rw [List.length_take];have:=L.out;omega
      ·rw [Nm.v32_take_of_zero hs k hz.out];exact V'.out
      ·rw [List.length_take];omega
     by_cases h0:k=0
     ·subst h0
      go_wp2
      go_ret
      exact FIN.out (Nat.zero_le _)
     ·obtain ⟨t,rfl⟩:∃t,k=t+1:=⟨k - 1,by omega⟩
      obtain ⟨x,hx,X⟩:∃x,wr.cell? ⟨w.heap.size,t,none⟩=some (.int .u64 x)∧Hid (x=hs.getD t 0):=⟨_,HC2.out t (by omega),rfl⟩
      by_cases hx0:x=0
      ·subst hx0
       clear FIN
       go_wp2
       go_round
       case rel=>
        refine ⟨t,by omega,rfl,fun i hi=>?_⟩
        by_cases e:i=t
        ·subst e;exact X.out.symm
        ·exact hz.out i (by omega)
       case measure=>simp [intOf]
      ·have KT:=hid (Nm.halves_len HH.out HL.out (by have:=L.out;omega) (by rw [←X.out];exact hx0) ((Nm.v32_take_of_zero hs (t+1) hz.out).trans V'.out))
       go_wp2
       go_ret
       exact FIN.out KT.out
end Go.Proofs.YtbdhlfklcdegdaaGreatDoor

namespace Go.Proofs.YtbdhlfklcdegdaaGreatDoor
namespace Gn
def gv (B:Int):List Int→Int
 | []=>0
 | z::zs=>z+B*gv B zs
def pb (B:Int):Nat→Int
 | 0=>1
 | k+1=>B*pb B k
def Digs (B:Int) (zs:List Int):Prop:=∀z∈zs,0≤z∧z<B
theorem gv_snoc (B:Int):∀(zs:List Int) (x:Int),gv B (zs++[x])=gv B zs+pb B zs.length*x
 | [],x=>by simp [gv,pb]
 | z::zs,x=>by
  simp only [List.cons_append,gv,gv_snoc B zs x,List.length_cons,pb,Int.mul_add,Int.mul_assoc]
  omega
theorem gv_take_succ (B:Int) (zs:List Int) (k:Nat) (h:k<zs.length):gv B (zs.take (k+1))=gv B (zs.take k)+pb B k*zs.getD k 0:=by
 rw [Nm.take_snoc zs k h,gv_snoc,List.length_take,Nat.min_eq_left (by omega)]
theorem gv_set (B:Int):∀(zs:List Int) (i:Nat) (s:Int),i<zs.length→gv B (zs.set i s)=gv B zs+pb B i*(s - zs.getD i 0)
 | [],_,_,h=>by simp at h
 | z::zs,0,s,_=>by simp only [List.set_cons_zero,gv,pb,List.getD_cons_zero];omega
 | z::zs,i+1,s,h=>by
  have:=gv_set B zs i s (by simpa using h)
  simp only [List.set_cons_succ,gv,pb,List.getD_cons_succ,this,Int.mul_add,Int.mul_assoc]
  omega
theorem Digs.set {B:Int} {zs:List Int} (h:Digs B zs) (i:Nat) {s:Int} (h0:0≤s) (h1:s<B):Digs B (zs.set i s):=by
 intro z hz
 rcases List.mem_or_eq_of_mem_set hz with a | rfl
 ·exact h z a
 ·exact ⟨h0,h1⟩
theorem Digs.snoc {B:Int} {zs:List Int} (h:Digs B zs) {s:Int} (h0:0≤s) (h1:s<B):Digs B (zs++[s]):=by
 intro z hz
 rcases List.mem_append.1 hz with a | a
 ·exact h z a
 ·simp at a
  subst a
  exact ⟨h0,h1⟩
theorem Digs.at {B:Int} {zs:List Int} (h:Digs B zs) (hB:0<B) (i:Nat):0≤zs.getD i 0∧zs.getD i 0<B:=by
 by_cases hi:i<zs.length
 ·have:zs.getD i 0=zs[i]:=by simp [List.getD,hi]
  rw [this]
  exact h _ (List.getElem_mem hi)
 ·simp [List.getD,List.getElem?_eq_none (Nat.le_of_not_lt hi),hB]
theorem grow_step {B p h m c lo c' T U X:Int} (he:lo+B*c'=h*m+c) (hI:X+p*c=m*T+U):X+p*(lo - h)+p*B*c'=m*(T+p*h)+(U - p*h):=by
 have e1:p*lo+p*(B*c')=p*(h*m)+p*c:=by rw [←Int.mul_add,←Int.mul_add,he]
 have e2:p*(h*m)=m*(p*h):=by rw [←Int.mul_assoc,Int.mul_comm]
 rw [Int.mul_sub,Int.mul_add,Int.mul_assoc]
 omega
end Gn
open Go.RowKit Go.Deep
def TimesTold (base:Nat) (B:Int) (gs:List Int) (c:Int) (w:World) (e:Ending) (w':World):Prop:=
 ∃mv gs',e=.returned mv∧Row64 base w' mv gs'∧Gn.Digs B gs'∧Gn.gv B gs'=4294967296*Gn.gv B gs+c∧gs'.length≤gs.length+2∧Below base w w'
def TInv (base:Nat) (B:Int) (hs os:List Int) (c0 c:Int) (i:Nat) (mv:Value) (w wr:World):Prop:=
 Row64 base wr mv os∧os.length=hs.length∧Gn.Digs B os∧(∀j,i≤j→os.getD j 0=hs.getD j 0)∧Gn.gv B os+Gn.pb B i*c=4294967296*Gn.gv B (hs.take i)+(Gn.gv B hs - Gn.gv B (hs.take i)+c0)∧Below base w wr
theorem TInv.step {base:Nat} {B:Int} {hs os:List Int} {c0 c:Int} {i g n cap:Nat} {w wr:World} (I:TInv base B hs os c0 c i (.slice (some ⟨g,0,none⟩) n cap) w wr) (hi:i<hs.length) {lo c':Int} (he:lo+B*c'=hs.getD i 0*4294967296+c) (h0:0≤lo) (h1:lo<B) (hb:base≤g):
  TInv base B hs (os.set i lo) c0 c' (i+1) (.slice (some ⟨g,0,none⟩) n cap) w (wr.setCell ⟨g,i,none⟩ (.int .u64 lo)):=by
 obtain ⟨i1,i2,i3,i4,i5,i6⟩:=I
 refine ⟨i1.set i lo,by simpa using i2,i3.set i h0 h1,fun j hj=>?_,?_,i6.trans ⟨rfl,rfl,rfl,by simp [World.setCell],fun j hj=>?_⟩⟩
 ·rw [←i4 j (by omega)]
  simp [List.getD,show ¬i=j by omega]
 ·rw [Gn.gv_set B os i lo (by omega),i4 i (Nat.le_refl _),Gn.gv_take_succ B hs i hi]
  have:=Gn.grow_step he i5
  rw [Gn.pb]
  generalize Gn.pb B i=p at *
  rw [show B*p*c'=p*B*c' by rw [Int.mul_comm B p]]
  omega
 ·simp only [World.setCell,Array.getElem?_modify]
  rw [if_neg (by omega)]
def UInv (base:Nat) (B:Int) (hs os:List Int) (c0 c:Int) (mv:Value) (w wr:World):Prop:=
 Row64 base wr mv os∧Gn.Digs B os∧Gn.gv B os+Gn.pb B os.length*c=4294967296*Gn.gv B hs+c0∧Below base w wr∧(os.length=hs.length∧c<4294967296∨os.length=hs.length+1∧c<65536∨os.length=hs.length+2∧c≤0)
theorem UInv.step {base:Nat} {B:Int} {hs os:List Int} {c0 c:Int} {mv:Value} {w wr:World} (I:UInv base B hs os c0 c mv w wr) (hB:65536≤B) (hl:hs.length≤1000000) (hc:0<c) (hb:base≤w.heap.size):
  ∃mv' w',(Builtin.append_ #[50,50] 50 #[mv,.slice (some ⟨wr.heap.size,0,none⟩) 1 1]).run Tryz.prog (wr.alloc (.cells #[.int .u64 (c%B)] 24))=.ok mv' w'∧UInv base B hs (os++[c%B]) c0 (c/B) mv' w w':=by
 obtain ⟨i1,i2,i3,i4,i5⟩:=I
 obtain ⟨mv',w2,ap,r2,z2,b2,_⟩:=i1.push (c%B) (by omega) (by have:=i4.size;omega)
 refine ⟨mv',w2,ap,r2,i2.snoc (Int.emod_nonneg _ (by omega)) (Int.emod_lt_of_pos _ (by omega)),?_,i4.trans b2,?_⟩
 ·rw [Gn.gv_snoc,List.length_append,List.length_cons,List.length_nil,Nat.zero_add,Gn.pb,←i3]
  have e:=Int.emod_add_mul_ediv c B
  generalize Gn.pb B os.length=q
  rw [Int.mul_comm B q,Int.mul_assoc,Int.add_assoc,←Int.mul_add,e]
 ·have h1:c<4294967296→c/B<65536:=fun h=>Int.ediv_lt_of_lt_mul (by omega) (by omega)
  have h2:c<65536→c/B<1:=fun h=>Int.ediv_lt_of_lt_mul (by omega) (by omega)
  rw [List.length_append,List.length_cons,List.length_nil]
  omega
set_option maxRecDepth 100000 in
set_option maxHeartbeats 2000000 in
theorem stimes_any (base:Nat) (mv:Value) (hs:List Int) (B c:Int) (w:World) (hr:Row64 base w mv hs) (hh:Gn.Digs B hs) (hl:hs.length≤1000000) (hm0:65536≤B) (hm1:B<2147483648) (hc0:0≤c) (hc1:c<4294967296) (hb:base≤w.heap.size):
  Calls Tryz.prog 208 #[mv,.int .u64 c,.int .u64 B] w fun e w'=>TimesTold base B hs c w e w':=by
 obtain ⟨pm,cp,hmv⟩:=hr.shape
 subst hmv
 obtain ⟨n,HN⟩:∃n,Hid (hs.length=n):=⟨_,rfl⟩
 rw [HN.out] at hr ⊢
 have hn:(n:Int)≤1000000:=by have:=HN.out;omega
 have I0:Hid (TInv base B hs hs c c 0 (.slice pm n cp) w w):=⟨hr,rfl,hh,fun _ _=>rfl,by simp [Gn.gv,Gn.pb],Below.refl _ _⟩
 have HH:=hid hh
 have HB:=hid hb
 have GB:Hid (0<n→∃g,pm=some ⟨g,0,none⟩∧base≤g):=fun h=>by
  rcases hr.2 with ⟨e,_⟩ | ⟨g,cap,cur,e,h1,_⟩
  ·simp only [Value.slice.injEq] at e
   omega
  ·simp only [Value.slice.injEq] at e
   exact ⟨g,e.1,h1⟩
 obtain ⟨cc,HCC⟩:∃cc,Hid (c=cc):=⟨_,rfl⟩
 rw [HCC.out] at I0
 have hcc0:0≤cc:=by have:=HCC.out;omega
 have hcc1:cc<4294967296:=by have:=HCC.out;omega
 rw [HCC.out]
 clear hr hh hb hc0 hc1 hl HCC
 have hB0:B≠0:=by omega
 go_enter Tryz.func208,Tryz.ntmps208
 go_wp2_with fail
 go_loopw [1,7,8] (fun a i _ wr=>∃(j:Nat) (x:Int) (os:List Int),a=.int .u64 x∧i=.int .i64 (j:Int)∧j≤n∧0≤x∧x<4294967296∧Hid (TInv base B hs os cc x j (.slice pm n cp) w wr)) (fun _ i _ _=>n - (intOf i).toNat)
 case atStart=>exact ⟨0,cc,hs,rfl,rfl,Nat.zero_le _,hcc0,hcc1,I0.out⟩
 case round=>
  clear I0
  obtain ⟨j,x,os,rfl,rfl,hj,hx0,hx1,I⟩:=hrel
  by_cases hlt:j<n
  ·have hji:(j:Int)<(n:Int):=by omega
   obtain ⟨g,hg,hbg⟩:=GB.out (by omega)
   subst hg
   obtain ⟨h,hH⟩:∃h,Hid (hs.getD j 0=h):=⟨_,rfl⟩
   have hcell:wr.cell? ⟨g,j,none⟩=some (.int .u64 h):=by
    obtain ⟨g',cp',e,cs⟩:=I.out.1.cells (fun c=>by have h1:=I.out.2.1;rw [c] at h1;have:=HN.out;simp at h1;omega)
    simp only [Value.slice.injEq,Option.some.injEq] at e
    obtain ⟨e1,_,_⟩:=e
    cases e1
    have:=cs j (by have:=I.out.2.1;have:=HN.out;omega)
    rw [Nat.zero_add,I.out.2.2.2.1 j (Nat.le_refl _),hH.out] at this
    exact this
   have hfr:=I.out.1.free j
   have hhb:=HH.out.at (by omega) j
   rw [hH.out] at hhb
   obtain ⟨h0,h1⟩:=hhb
   obtain ⟨p,hp,P⟩:∃p,IntKind.u64.wrap (h*4294967296)=p∧Hid (p=h*4294967296):=⟨_,by rw [IntKind.wrap_u64,Int.emod_eq_of_lt (by omega) (by omega)],rfl⟩
   have p0:0≤p:=by have:=P.out;omega
   have p1:p<9223372036854775808:=by have:=P.out;omega
   obtain ⟨t,ht,T⟩:∃t,IntKind.u64.wrap (p+x)=t∧Hid (t=p+x):=⟨_,by rw [IntKind.wrap_u64,Int.emod_eq_of_lt (by omega) (by omega)],rfl⟩
   have t0:0≤t:=by have:=T.out;omega
   obtain ⟨lo,hlo⟩:∃lo,t%B=lo:=⟨_,rfl⟩
   obtain ⟨c',hc'⟩:∃c',t/B=c':=⟨_,rfl⟩
   have l0:0≤lo:=by rw [←hlo];exact Int.emod_nonneg _ hB0
   have l1:lo<B:=by rw [←hlo];exact Int.emod_lt_of_pos _ (by omega)
   have c0:0≤c':=by rw [←hc'];exact Int.ediv_nonneg t0 (by omega)
   have c1:c'<4294967296:=by
    rw [←hc']
    refine Int.ediv_lt_of_lt_mul (by omega) ?_
    have:=P.out
    have:=T.out
    omega
   have e:lo+B*c'=h*4294967296+x:=by
    have:=Int.emod_add_mul_ediv t B
    rw [hlo,hc'] at this
    have:=P.out
    have:=T.out
    omega
   have hlo2:t.tmod B=lo:=by rw [Int.tmod_eq_emod_of_nonneg t0];exact hlo
   have hc2:t.tdiv B=c':=by rw [Int.tdiv_eq_ediv_of_nonneg t0];exact hc'
   have ST:Hid (TInv base B hs (os.set j lo) cc c' (j+1) (.slice (some ⟨g,0,none⟩) n cp) w (wr.setCell ⟨g,j,none⟩ (.int .u64 lo))):=I.out.step (by have:=HN.out;omega) (by rw [hH.out];omega) l0 l1 hbg
   clear I e
   go_wp2_with fail
   go_roundw
   case rel=>exact ⟨j+1,c',_,by first | rfl | rw [hc'],by go_num,by omega,c0,c1,ST.out⟩
   case measure=>simp [intOf];omega
  ·obtain rfl:j=n:=by omega
   obtain ⟨i1,i2,i3,i4,i5,i6⟩:=I.out
   rw [List.take_of_length_le (by have:=HN.out;omega),show Gn.gv B hs - Gn.gv B hs+cc=cc by omega] at i5
   have U0:Hid (UInv base B hs os cc x (.slice pm j cp) w wr):=⟨i1,i3,by rw [i2,HN.out];exact i5,i6,.inl ⟨i2,hx1⟩⟩
   clear I i1 i2 i3 i4 i5 i6
   go_wp2_with fail
   go_loopw [0,1] (fun a c w2=>∃(mv2:Value) (y:Int) (os2:List Int),a=mv2∧c=.int .u64 y∧0≤y∧y<4294967296∧Hid (UInv base B hs os2 cc y mv2 w w2)) (fun _ c _=>(intOf c).toNat)
   case atStart=>exact ⟨_,x,os,rfl,rfl,hx0,hx1,U0.out⟩
   case round=>
    clear U0
    obtain ⟨mv2,y,os2,hmv,rfl,hy0,hy1,I⟩:=hrel
    have hmv:=hmv.symm
    subst hmv
    by_cases hz:y=0
    ·subst hz
     obtain ⟨i1,i2,i3,i4,i5⟩:=I.out
     have F:Hid (TimesTold base B hs cc w (.returned mv2) wr):=⟨_,os2,rfl,i1,i2,by rw [Int.mul_zero,Int.add_zero] at i3;exact i3,by omega,i4⟩
     clear I i1 i2 i3 i4 i5
     go_wp2_with fail
     go_ret
     exact F.out
    ·have hyp:0<y:=by omega
     obtain ⟨mv',w2,ap,I2⟩:=I.out.step hm0 (by have:=HN.out;omega) hyp HB.out
     obtain ⟨lo,hlo⟩:∃lo,y%B=lo:=⟨_,rfl⟩
     obtain ⟨c',hc'⟩:∃c',y/B=c':=⟨_,rfl⟩
     rw [hlo] at ap I2
     rw [hc'] at I2
     have c0:0≤c':=by rw [←hc'];exact Int.ediv_nonneg hy0 (by omega)
     have c1:c'<y:=by rw [←hc'];exact Int.ediv_lt_self_of_pos_of_ne_one hyp (by omega)
     have hlo2:y.tmod B=lo:=by rw [Int.tmod_eq_emod_of_nonneg hy0];exact hlo
     have hc2:y.tdiv B=c':=by rw [Int.tdiv_eq_ediv_of_nonneg hy0];exact hc'
     have AP:=hid ap
     have I3:=hid I2
     clear ap I2 I
     go_wp2_with (at_builtin;refine wpList_append_d rfl _ _ rfl AP.out (by rfl) (by rfl) ?_;clear AP)
     go_roundw
     case rel=>exact ⟨mv',c',os2++[lo],rfl,by first | rfl | rw [hc'],c0,by omega,I3.out⟩
     case measure=>simp [intOf];omega
end Go.Proofs.YtbdhlfklcdegdaaGreatDoor
