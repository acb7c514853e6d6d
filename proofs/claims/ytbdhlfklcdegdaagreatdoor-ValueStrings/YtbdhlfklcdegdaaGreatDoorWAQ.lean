/-
  Texts put together: Walk4, MulOver, QGives, NRaise, SGrown.
-/
import Derived.Test.YtbdhlfklcdegdaaGreatDoorWAJ
import Derived.Test.YtbdhlfklcdegdaaGreatDoorWAC
import Derived.Test.YtbdhlfklcdegdaaGreatDoorWAH
import Derived.Test.YtbdhlfklcdegdaaGreatDoorWAM
import Derived.Deep.LoopGhost
import Derived.Test.YtbdhlfklcdegdaaGreatDoorRefNum
import Derived.Laws.Bits64b
namespace Go.Proofs.YtbdhlfklcdegdaaGreatDoor
open Go.RowKit Go.Deep
def ProdInv (g k:Nat) (w:World) (ls bs:List Int) (j:Nat) (os:List Int) (wr:World):Prop:=
 Own wr g os∧os.length=k∧Nm.Limbs os∧Nm.val os=Nm.val (ls.take j)*Nm.val bs∧Below g w wr
theorem ProdInv.step {g k:Nat} {w:World} {ls bs:List Int} {j:Nat} {os:List Int} {wr w':World} {n:Nat} (hn:bs.length=n) (ha:Nm.Limbs ls) (hb:Nm.Limbs bs) (h:ProdInv g k w ls bs j os wr) (hj:j<ls.length) (hk:j+n<k) {c x:Int} {us:List Int}
  (hx:x=ls.getD j 0) (hm:MulInv g k (j+n) wr os (Nm.val os+Nm.pw j*(Nm.val bs*x)) (j+n) c us w'):
  ProdInv g k w ls bs (j+1) (us.set (j+n) c) (w'.setCell ⟨g,j+n,none⟩ (.int .u64 c)):=by
 subst hn
 obtain ⟨h1,h2,h3,h4,h5⟩:=h
 obtain ⟨⟨m1,m2,m3,m4,m5,m6⟩,m7,m8⟩:=hm
 have hv:Nm.val os<Nm.pw (j+bs.length):=by
  rw [h4,Nm.pw_add]
  have e1:=Nm.val_bd _ (ha.take j)
  rw [List.length_take,Nat.min_eq_left (by omega)] at e1
  have e2:=Nm.val_bd _ hb
  have e3:Nm.val (ls.take j)*Nm.val bs≤Nm.pw j*Nm.val bs:=Int.mul_le_mul_of_nonneg_right (by omega) e2.1
  have e4:Nm.pw j*(Nm.val bs+1)≤Nm.pw j*Nm.pw bs.length:=Int.mul_le_mul_of_nonneg_left (by omega) (by have:=Nm.pw_pos j;omega)
  have e5:=Nm.pw_pos j
  rw [Int.mul_add,Int.mul_one] at e4
  omega
 have h0:us.getD (j+bs.length) 0=0:=by rw [m8 _ (Nat.le_refl _)];exact Nm.zero_of_lt h3 hv _ (Nat.le_refl _)
 refine ⟨m1.set _ _,by simpa using m2,m3.set _ m7.1 m7.2,?_,h5.trans (m5.setCell (Nat.le_refl _) _)⟩
 rw [Nm.val_set _ _ _ (by omega),h0,Int.sub_zero,m4,h4,hx,Nm.val_take_succ ls j hj,Int.add_mul,Int.mul_assoc,Int.mul_comm (ls.getD j 0)]
theorem prod_bound {zs ys:List Int} (hz:Nm.Limbs zs) (hy:Nm.Limbs ys) (h:Nm.val zs*Nm.val ys<Nm.pw 4096) (h1:0<Nm.tsize zs) (h2:0<Nm.tsize ys):Nm.tsize zs+Nm.tsize ys≤4097:=by
 have e1:=Nm.val_ge_top hz h1
 have e2:=Nm.val_ge_top hy h2
 have e3:Nm.pw (Nm.tsize zs - 1)*Nm.pw (Nm.tsize ys - 1)≤Nm.val zs*Nm.val ys:=Int.mul_le_mul e1 e2 (Int.le_of_lt (Nm.pw_pos _)) (by have:=(Nm.val_bd zs hz).1;omega)
 rw [←Nm.pw_add] at e3
 rcases Nat.lt_or_ge (Nm.tsize zs - 1+(Nm.tsize ys - 1)) 4096 with e | e
 ·omega
 ·have:=Nm.pw_mono e
  omega
set_option maxRecDepth 100000 in
set_option maxHeartbeats 1000000 in
theorem mul_ok (p q:Option Addr) (n cap m cap':Nat) (zs ys:List Int) (w:World) (ha:Arg w p n cap zs) (hb:Arg w q m cap' ys) (tz:Nm.tsize zs≤4096) (ty:Nm.tsize ys≤4096) (hs:Nm.val zs*Nm.val ys<Nm.pw 4096):
  Calls Tryz.prog 281 #[.slice p n cap,.slice q m cap'] w fun e w'=>∃r os,e=.returned (.tuple #[.slice r (List.length os) (List.length os),.int .i64 0])∧Ans w.heap.size w' r os (Nm.val zs*Nm.val ys)∧Below w.heap.size w w':=by
 obtain ⟨a1,a2,a3,a4,a5⟩:=ha
 obtain ⟨b1,b2,b3,b4,b5⟩:=hb
 have HS:Hid (Nm.val zs*Nm.val ys<Nm.pw 4096):=hs
 clear hs
 have nil:Nm.val zs*Nm.val ys=0→Ans w.heap.size w none [] (Nm.val zs*Nm.val ys):=fun h=>⟨Lies.nil _ _,Nm.Limbs.nil,rfl,by simp [Nm.val,h],fun a h=>by cases h⟩
 by_cases h1:Nm.tsize zs=0
 ·have h1':((Nm.tsize zs:Int) == 0)=true:=by simp [h1]
  have NIL:=hid (nil (by rw [(Nm.tsize_zero_iff a5).1 h1,Int.zero_mul]))
  clear nil h1
  go_enter Tryz.func281,Tryz.ntmps281
  go_wp2_with fail
  refine (pair_ok p q n cap m cap' zs ys _ a1 a2 (by omega) a4 tz b1 b2 (by omega) b4 ty).mono ?_
  rintro e w' ⟨rfl,rfl⟩
  go_wp2_with fail
  go_ret2
  exact ⟨none,[],rfl,NIL.out,Below.refl _ _⟩
 have h1':((Nm.tsize zs:Int) == 0)=false:=by simp [h1]
 by_cases h2:Nm.tsize ys=0
 ·have h2':((Nm.tsize ys:Int) == 0)=true:=by simp [h2]
  have NIL:=hid (nil (by rw [(Nm.tsize_zero_iff b5).1 h2,Int.mul_zero]))
  clear nil h1 h2
  go_enter Tryz.func281,Tryz.ntmps281
  go_wp2_with fail
  refine (pair_ok p q n cap m cap' zs ys _ a1 a2 (by omega) a4 tz b1 b2 (by omega) b4 ty).mono ?_
  rintro e w' ⟨rfl,rfl⟩
  go_wp2_with fail
  go_ret2
  exact ⟨none,[],rfl,NIL.out,Below.refl _ _⟩
 have h2':((Nm.tsize ys:Int) == 0)=false:=by simp [h2]
 clear nil
 have hsum:=prod_bound a5 b5 HS.out (by omega) (by omega)
 have hsum':(Nm.tsize zs:Int)+(Nm.tsize ys:Int)≤4097:=by omega
 have hmk:=make64 (Nm.tsize zs+Nm.tsize ys) (by omega) w
 have em:((Nm.tsize zs+Nm.tsize ys:Nat):Int)=(Nm.tsize zs:Int)+(Nm.tsize ys:Int):=by omega
 rw [em] at hmk
 clear em
 have ho:Own (w.alloc (.cells (madeCells #[.int .u64 0] (Nm.tsize zs+Nm.tsize ys)) 24)) w.heap.size (List.replicate (Nm.tsize zs+Nm.tsize ys) 0):=by
  rw [made_zero];exact Own.alloc w _
 have hb0:Below w.heap.size w (w.alloc (.cells (madeCells #[.int .u64 0] (Nm.tsize zs+Nm.tsize ys)) 24)):=(Below.refl _ _).alloc (Nat.le_refl _) _
 have I0:ProdInv w.heap.size (Nm.tsize zs+Nm.tsize ys) w (Nm.trim zs) (Nm.trim ys) 0 (List.replicate (Nm.tsize zs+Nm.tsize ys) 0) (w.alloc (.cells (madeCells #[.int .u64 0] (Nm.tsize zs+Nm.tsize ys)) 24)):=
  ⟨ho,by simp,Nm.Limbs.replicate _,by simp [Nm.val_replicate,Nm.val],hb0⟩
 clear ho hb0
 have hsum2:decide (4096<(Nm.tsize zs:Int)+(Nm.tsize ys:Int) - 1)=false:=by simp;omega
 have A4:=hid a4.trim
 have B4:=hid b4.trim
 obtain ⟨b,off,rfl,hcell⟩:∃b off,p=some ⟨b,off,none⟩∧Hid (∀i,i<Nm.tsize zs→w.cell? ⟨b,off+i,none⟩=some (.int .u64 ((Nm.trim zs).getD i 0))):=by
  have hlen:=Nm.trim_length zs
  rcases A4.out with h | ⟨b,off,hp,h⟩
  ·exfalso
   rw [h] at hlen
   simp at hlen
   omega
  ·exact ⟨b,off,hp,fun i hi=>h i (by rw [hlen];exact hi)⟩
 have hbg:b<w.heap.size:=cell_lt (hcell.out 0 (by omega))
 have A5:=hid a5.trim
 have B5:=hid b5.trim
 go_enter Tryz.func281,Tryz.ntmps281
 go_wp2_with fail
 refine (pair_ok (some ⟨b,off,none⟩) q n cap m cap' zs ys _ a1 a2 (by omega) a4 tz b1 b2 (by omega) b4 ty).mono ?_
 rintro e w' ⟨rfl,rfl⟩
 clear a4 b4
 go_wp2_with fail
 go_loopw [43] (fun i wr=>∃(j:Nat) (os:List Int),j≤Nm.tsize zs∧i=.int .i64 j∧ProdInv w'.heap.size (Nm.tsize zs+Nm.tsize ys) w' (Nm.trim zs) (Nm.trim ys) j os wr) (fun i _=>Nm.tsize zs - (intOf i).toNat)
 case atStart=>exact ⟨0,_,Nat.zero_le _,rfl,I0⟩
 case round=>
  clear I0 hmk
  obtain ⟨j,os,hj,rfl,I⟩:=hrel
  by_cases hlt:j<Nm.tsize zs
  ·obtain ⟨x,hx,X⟩:∃x,wr.cell? ⟨b,off+j,none⟩=some (.int .u64 x)∧Hid (x=(Nm.trim zs).getD j 0):=⟨_,(I.2.2.2.2.cell (p:=⟨b,off+j,none⟩) hbg).trans (hcell.out j hlt),rfl⟩
   have hx0:=A5.out.at j
   rw [show (Nm.trim zs).getD j 0=x from X.out.symm] at hx0
   obtain ⟨hx0,hx1⟩:=hx0
   go_wp2_with fail
   refine (addTimes_any w'.heap.size (Nm.tsize zs+Nm.tsize ys) j (Nm.tsize ys) _ os q _ (Nm.trim ys) x _ I.2.1 (by omega) I.1 I.2.2.1 (Nm.trim_length ys) (by omega) (B4.out.below I.2.2.2.2 (Nat.le_refl _)) B5.out (fun h0=>B4.out.lt h0) hx0 hx1).mono ?_
   rintro e w2 ⟨c,us,rfl,M⟩
   have I2:=I.step (Nm.trim_length ys) A5.out B5.out (by rw [Nm.trim_length];exact hlt) (by omega) X.out M
   obtain ⟨y,hy⟩:∃y,w2.cell? ⟨w'.heap.size,j+Nm.tsize ys,none⟩=some (.int .u64 y):=⟨_,M.1.1.cell _ (by have:=M.1.2.1;omega)⟩
   have hfr:=M.1.1.free (j+Nm.tsize ys)
   clear M
   go_wp2
   go_roundw
   case rel=>exact ⟨j+1,_,by omega,by go_num,I2⟩
   case measure=>simp [intOf];omega
  ·have hjn:j=Nm.tsize zs:=by omega
   subst hjn
   have E:=I.2.2.2.1
   rw [List.take_of_length_le (by rw [Nm.trim_length];omega),Nm.val_trim,Nm.val_trim] at E
   have EE:=hid E
   clear E
   go_wp2_with fail
   refine (limited_own w'.heap.size (Nm.tsize zs+Nm.tsize ys) os _ I.2.1 (by omega) I.1 I.2.2.1 w'.heap.size (Nat.le_refl _) (by rw [EE.out];exact HS.out)).mono ?_
   rintro e w3 ⟨r,xs,rfl,hans,rfl⟩
   rw [EE.out] at hans
   have HA:=hid hans
   clear hans
   have HB:=hid I.2.2.2.2
   clear I
   go_wp2_with fail
   go_ret2
   exact ⟨r,xs,rfl,HA.out,HB.out⟩
end Go.Proofs.YtbdhlfklcdegdaaGreatDoor

namespace Go.Proofs.YtbdhlfklcdegdaaGreatDoor
open Go.RowKit Go.Deep
set_option maxRecDepth 100000 in
set_option maxHeartbeats 1000000 in
theorem mul_over (p q:Option Addr) (n cap m cap':Nat) (zs ys:List Int) (w:World) (ha:Arg w p n cap zs) (hb:Arg w q m cap' ys) (tz:Nm.tsize zs≤4096) (ty:Nm.tsize ys≤4096) (hs:Nm.pw 4096≤Nm.val zs*Nm.val ys):
  Calls Tryz.prog 281 #[.slice p n cap,.slice q m cap'] w fun e w'=>e=.returned (.tuple #[.slice none 0 0,.int .i64 2])∧Below w.heap.size w w':=by
 obtain ⟨a1,a2,a3,a4,a5⟩:=ha
 obtain ⟨b1,b2,b3,b4,b5⟩:=hb
 have HS:=hid hs
 clear hs
 have hp:=Nm.pw_pos 4096
 have h1:Nm.tsize zs≠0:=fun h=>by
  have e:=(Nm.tsize_zero_iff a5).1 h
  have:=HS.out
  rw [e,Int.zero_mul] at this
  omega
 have h2:Nm.tsize ys≠0:=fun h=>by
  have e:=(Nm.tsize_zero_iff b5).1 h
  have:=HS.out
  rw [e,Int.mul_zero] at this
  omega
 have h1':((Nm.tsize zs:Int) == 0)=false:=by simp [h1]
 have h2':((Nm.tsize ys:Int) == 0)=false:=by simp [h2]
 clear hp
 by_cases hearly:4097<Nm.tsize zs+Nm.tsize ys
 ·have he:(4096:Int)<(Nm.tsize zs:Int)+(Nm.tsize ys:Int) - 1:=by omega
  go_enter Tryz.func281,Tryz.ntmps281
  go_wp2_with fail
  refine (pair_ok p q n cap m cap' zs ys _ a1 a2 (by omega) a4 tz b1 b2 (by omega) b4 ty).mono ?_
  rintro e w' ⟨rfl,rfl⟩
  go_wp2_with fail
  go_ret2
  exact ⟨rfl,Below.refl _ _⟩
 have hsum':(Nm.tsize zs:Int)+(Nm.tsize ys:Int)≤4097:=by omega
 have hmk:=make64 (Nm.tsize zs+Nm.tsize ys) (by omega) w
 have em:((Nm.tsize zs+Nm.tsize ys:Nat):Int)=(Nm.tsize zs:Int)+(Nm.tsize ys:Int):=by omega
 rw [em] at hmk
 clear em
 have ho:Own (w.alloc (.cells (madeCells #[.int .u64 0] (Nm.tsize zs+Nm.tsize ys)) 24)) w.heap.size (List.replicate (Nm.tsize zs+Nm.tsize ys) 0):=by
  rw [made_zero];exact Own.alloc w _
 have hb0:Below w.heap.size w (w.alloc (.cells (madeCells #[.int .u64 0] (Nm.tsize zs+Nm.tsize ys)) 24)):=(Below.refl _ _).alloc (Nat.le_refl _) _
 have I0:ProdInv w.heap.size (Nm.tsize zs+Nm.tsize ys) w (Nm.trim zs) (Nm.trim ys) 0 (List.replicate (Nm.tsize zs+Nm.tsize ys) 0) (w.alloc (.cells (madeCells #[.int .u64 0] (Nm.tsize zs+Nm.tsize ys)) 24)):=
  ⟨ho,by simp,Nm.Limbs.replicate _,by simp [Nm.val_replicate,Nm.val],hb0⟩
 clear ho hb0
 have hsum2:decide (4096<(Nm.tsize zs:Int)+(Nm.tsize ys:Int) - 1)=false:=by simp;omega
 have A4:=hid a4.trim
 have B4:=hid b4.trim
 obtain ⟨b,off,rfl,hcell⟩:∃b off,p=some ⟨b,off,none⟩∧Hid (∀i,i<Nm.tsize zs→w.cell? ⟨b,off+i,none⟩=some (.int .u64 ((Nm.trim zs).getD i 0))):=by
  have hlen:=Nm.trim_length zs
  rcases A4.out with h | ⟨b,off,hp,h⟩
  ·exfalso
   rw [h] at hlen
   simp at hlen
   omega
  ·exact ⟨b,off,hp,fun i hi=>h i (by rw [hlen];exact hi)⟩
 have hbg:b<w.heap.size:=cell_lt (hcell.out 0 (by omega))
 have A5:=hid a5.trim
 have B5:=hid b5.trim
 go_enter Tryz.func281,Tryz.ntmps281
 go_wp2_with fail
 refine (pair_ok (some ⟨b,off,none⟩) q n cap m cap' zs ys _ a1 a2 (by omega) a4 tz b1 b2 (by omega) b4 ty).mono ?_
 rintro e w' ⟨rfl,rfl⟩
 clear a4 b4
 go_wp2_with fail
 go_loopw [43] (fun i wr=>∃(j:Nat) (os:List Int),j≤Nm.tsize zs∧i=.int .i64 j∧ProdInv w'.heap.size (Nm.tsize zs+Nm.tsize ys) w' (Nm.trim zs) (Nm.trim ys) j os wr) (fun i _=>Nm.tsize zs - (intOf i).toNat)
 case atStart=>exact ⟨0,_,Nat.zero_le _,rfl,I0⟩
 case round=>
  clear I0 hmk
  obtain ⟨j,os,hj,rfl,I⟩:=hrel
  by_cases hlt:j<Nm.tsize zs
  ·obtain ⟨x,hx,X⟩:∃x,wr.cell? ⟨b,off+j,none⟩=some (.int .u64 x)∧Hid (x=(Nm.trim zs).getD j 0):=⟨_,(I.2.2.2.2.cell (p:=⟨b,off+j,none⟩) hbg).trans (hcell.out j hlt),rfl⟩
   have hx0:=A5.out.at j
   rw [show (Nm.trim zs).getD j 0=x from X.out.symm] at hx0
   obtain ⟨hx0,hx1⟩:=hx0
   go_wp2_with fail
   refine (addTimes_any w'.heap.size (Nm.tsize zs+Nm.tsize ys) j (Nm.tsize ys) _ os q _ (Nm.trim ys) x _ I.2.1 (by omega) I.1 I.2.2.1 (Nm.trim_length ys) (by omega) (B4.out.below I.2.2.2.2 (Nat.le_refl _)) B5.out (fun h0=>B4.out.lt h0) hx0 hx1).mono ?_
   rintro e w2 ⟨c,us,rfl,M⟩
   have I2:=I.step (Nm.trim_length ys) A5.out B5.out (by rw [Nm.trim_length];exact hlt) (by omega) X.out M
   obtain ⟨y,hy⟩:∃y,w2.cell? ⟨w'.heap.size,j+Nm.tsize ys,none⟩=some (.int .u64 y):=⟨_,M.1.1.cell _ (by have:=M.1.2.1;omega)⟩
   have hfr:=M.1.1.free (j+Nm.tsize ys)
   clear M
   go_wp2
   go_roundw
   case rel=>exact ⟨j+1,_,by omega,by go_num,I2⟩
   case measure=>simp [intOf];omega
  ·have hjn:j=Nm.tsize zs:=by omega
   subst hjn
   have E:=I.2.2.2.1
   rw [List.take_of_length_le (by rw [Nm.trim_length];omega),Nm.val_trim,Nm.val_trim] at E
   have EE:=hid E
   clear E
   go_wp2_with fail
   refine (limited_own_big w'.heap.size (Nm.tsize zs+Nm.tsize ys) os _ I.2.1 (by omega) I.1 I.2.2.1 (by rw [EE.out];exact HS.out)).mono ?_
   rintro e w3 ⟨rfl,rfl⟩
   have HB:=hid I.2.2.2.2
   clear I
   go_wp2_with fail
   go_ret2
   exact ⟨rfl,HB.out⟩
end Go.Proofs.YtbdhlfklcdegdaaGreatDoor

namespace Go.Proofs.YtbdhlfklcdegdaaGreatDoor
open Go.RowKit Go.Deep
def Gives (T:Int) (w:World) (e:Ending) (w':World):Prop:=
 ((T<Nm.pw 4096∧∃r os,e=.returned (.tuple #[.slice r (List.length os) (List.length os),.int .i64 0])∧Ans w.heap.size w' r os T)∨(Nm.pw 4096≤T∧e=.returned (.tuple #[.slice none 0 0,.int .i64 2])))∧Below w.heap.size w w'
theorem Ans.argT {B:Nat} {w:World} {p:Option Addr} {ys:List Int} {n:Int} (h:Ans B w p ys n) (hn:n<Nm.pw 4096):Arg w p ys.length ys.length ys:=
 h.arg (by have:=h.small hn;omega)
theorem Ans.tsT {B:Nat} {w:World} {p:Option Addr} {ys:List Int} {n:Int} (h:Ans B w p ys n) (hn:n<Nm.pw 4096):Nm.tsize ys≤4096:=by
 rw [h.2.2.1]
 exact h.small hn
theorem Ans.upT {B B':Nat} {w:World} {p:Option Addr} {ys:List Int} {n:Int} (h:Ans B w p ys n) (hB:B'≤B):Ans B' w p ys n:=
 ⟨h.1,h.2.1,h.2.2.1,h.2.2.2.1,fun a ha=>Nat.le_trans hB (h.2.2.2.2 a ha)⟩
theorem mul_gives (p q:Option Addr) (n cap m cap':Nat) (zs ys:List Int) (T:Int) (w:World) (ha:Arg w p n cap zs) (hb:Arg w q m cap' ys) (tz:Nm.tsize zs≤4096) (ty:Nm.tsize ys≤4096) (hT:Nm.val zs*Nm.val ys=T):
  Calls Tryz.prog 281 #[.slice p n cap,.slice q m cap'] w fun e w'=>Gives T w e w':=by
 by_cases h:T<Nm.pw 4096
 ·refine (mul_ok p q n cap m cap' zs ys w ha hb tz ty (by rw [hT];exact h)).mono ?_
  rintro e w' ⟨r,os,rfl,A,hb⟩
  rw [hT] at A
  exact ⟨.inl ⟨h,r,os,rfl,A⟩,hb⟩
 ·refine (mul_over p q n cap m cap' zs ys w ha hb tz ty (by rw [hT];exact Int.not_lt.1 h)).mono ?_
  rintro e w' ⟨rfl,hb⟩
  exact ⟨.inr ⟨Int.not_lt.1 h,rfl⟩,hb⟩
theorem limbs_isT (p:Option Addr) (n cap:Nat) (zs:List Int) (N:Nat) (w:World) (ha:Arg w p n cap zs) (hN:Nm.tsize zs=N):
  Calls Tryz.prog 307 #[.slice p n cap] w fun e w'=>e=.returned (.int .i64 (N:Int))∧w'=w:=by
 rw [←hN]
 exact limbs_any p n cap zs w ha
theorem bitLen_isT (L:Nat) (p:Option Addr) (n cap:Nat) (zs:List Int) (w:World) (ha:Arg w p n cap zs) (hb:blen zs=(L:Int)):
  Calls Tryz.prog 59 #[.slice p n cap] w fun e w'=>e=.returned (.int .i64 (L:Int))∧w'=w:=by
 rw [←hb]
 exact bitLen_any p n cap zs w ha
end Go.Proofs.YtbdhlfklcdegdaaGreatDoor

namespace Go.Proofs.YtbdhlfklcdegdaaGreatDoor
open Go.RowKit Go.Deep
def OwnF (w:World) (g:Nat) (zs:List Int):Prop:=∃lo hi,w.heap[g]?=some (.cells (zs.map (Value.int .u8)).toArray 5 (lo,hi))∧zs.length≤lo
theorem OwnF.cell {w:World} {g:Nat} {zs:List Int} (h:OwnF w g zs) (i:Nat) (hi:i<zs.length):w.cell? ⟨g,i,none⟩=some (.int .u8 (zs.getD i 0)):=by
 obtain ⟨lo,k,h,_⟩:=h
 simp [World.cell?,h,List.getD,hi]
theorem OwnF.free {w:World} {g:Nat} {zs:List Int} (h:OwnF w g zs) (i:Nat) (hi:i<zs.length):w.frozen? ⟨g,i,none⟩=false:=by
 obtain ⟨lo,k,h,hl⟩:=h
 simp [World.frozen?,h]
 omega
theorem OwnF.lt {w:World} {g:Nat} {zs:List Int} (h:OwnF w g zs):g<w.heap.size:=by
 obtain ⟨lo,k,h,_⟩:=h
 rcases Nat.lt_or_ge g w.heap.size with hl | hl
 ·exact hl
 ·simp [Array.getElem?_eq_none hl] at h
theorem OwnF.set {w:World} {g:Nat} {zs:List Int} (h:OwnF w g zs) (i:Nat) (s:Int):OwnF (w.setCell ⟨g,i,none⟩ (.int .u8 s)) g (zs.set i s):=by
 have hl:=h.lt
 obtain ⟨lo,k,h,hz⟩:=h
 exact ⟨lo,k,by simp [World.setCell,Array.getElem?_modify,h,List.map_set],by simpa using hz⟩
theorem OwnF.below {w w':World} {B g:Nat} {zs:List Int} (h:OwnF w g zs) (hb:Below B w w') (hg:g<B):OwnF w' g zs:=by
 obtain ⟨lo,k,h,hz⟩:=h
 exact ⟨lo,k,by rw [hb.block g hg,h],hz⟩
def Raised (ds ds':List Int) (c:Bool):Prop:=Digs ds'∧ds'.length=ds.length∧dv ds'+(if c then 10^ds.length else 0)=dv ds+1
theorem tail57 {es:List Int} {n j:Nat} (hn:n≤es.length) (hj:j≤n) (h:∀i,j≤i→i<n→es.getD i 0=57):es.take n=es.take j++List.replicate (n - j) 57:=by
 apply List.ext_getElem?
 intro i
 by_cases h1:i<j
 ·rw [List.getElem?_append_left (by simp;omega),List.getElem?_take,List.getElem?_take,if_pos (by omega),if_pos h1]
 ·by_cases h2:i<n
  ·have:=h i (by omega) h2
   rw [List.getElem?_append_right (by simp;omega),List.getElem?_take,if_pos h2,List.getElem?_replicate,if_pos (by simp;omega)]
   rw [List.getElem?_eq_getElem (by omega)] at *
   simp [List.getD,List.getElem?_eq_getElem (show i<es.length by omega)] at this
   rw [this]
  ·rw [List.getElem?_eq_none (by simp;omega),List.getElem?_eq_none (by simp;omega)]
theorem put_take (es:List Int) (o n:Nat) (xs:List Int) (h:o+xs.length=n) (hn:n≤es.length):(put es o xs).take n=es.take o++xs:=by
 unfold put
 rw [List.take_append_of_le_length (by simp;omega),List.take_of_length_le (by simp;omega)]
theorem raised_all {es:List Int} {n:Nat} (hn:n≤es.length) (h:∀i,0≤i→i<n→es.getD i 0=57):Raised (es.take n) ((put es 0 (List.replicate n 48)).take n) true:=by
 rw [put_take es 0 n _ (by simp) hn,tail57 hn (Nat.zero_le _) h]
 simp only [List.take_zero,List.nil_append,Nat.sub_zero]
 refine ⟨fun d hd=>?_,by simp,?_⟩
 ·have:=List.eq_of_mem_replicate hd
  omega
 ·rw [dv_zeros,dv_nines]
  simp
theorem raised_at {es:List Int} {n u:Nat} {x:Int} (hn:n≤es.length) (hu:u<n) (hx:es.getD u 0=x) (hx1:x≠57) (hd:Digs (es.take n)) (h:∀i,u+1≤i→i<n→es.getD i 0=57):Raised (es.take n) ((put es u ((x+1)::List.replicate (n - (u+1)) 48)).take n) false:=by
 have e1:es.take (u+1)=es.take u++[x]:=by
  rw [List.take_add_one,←hx]
  simp [List.getD,List.getElem?_eq_getElem (show u<es.length by omega)]
 have e2:=tail57 hn (by omega) h
 rw [e1] at e2
 have hxd:=hd x (by rw [e2];simp)
 rw [put_take es u n _ (by simp;omega) hn]
 refine ⟨fun d hm=>?_,by simp;omega,?_⟩
 ·rw [List.mem_append,List.mem_cons] at hm
  rcases hm with hm | hm | hm
  ·exact hd d (by rw [e2];simp [hm])
  ·omega
  ·have:=List.eq_of_mem_replicate hm
   omega
 ·rw [e2,dv_append,dv_cons,dv_zeros,List.append_assoc,dv_append,List.singleton_append,dv_cons,dv_nines]
  simp only [List.length_cons,List.length_replicate]
  rw [show (x+1 - 48)=(x - 48)+1 by omega,Int.add_mul]
  simp
  omega
def RaiseTold (g:Nat) (es:List Int) (n:Nat) (w:World) (e:Ending) (w':World):Prop:=
 ∃c es',e=.returned (.bool c)∧OwnF w' g es'∧es'.length=es.length∧Raised (es.take n) (es'.take n) c∧Only g w w'
set_option maxRecDepth 100000 in
set_option maxHeartbeats 2000000 in
theorem raise_any (g n cap:Nat) (es:List Int) (w:World) (ho:OwnF w g es) (hn:n≤es.length) (hs:n≤140737488351232) (hd:Digs (es.take n)):
  Calls Tryz.prog 283 #[.slice (some ⟨g,0,none⟩) n cap] w fun e w'=>RaiseTold g es n w e w':=by
 have HO:=hid ho
 have HN:=hid hn
 have HD:=hid hd
 have hsi:(n:Int)≤140737488351232:=by omega
 clear ho hn hd
 go_enter Tryz.func283,Tryz.ntmps283
 go_wp2_with fail
 go_loopg [3] n (fun j i wr=>i=.int .i64 ((j:Int) - 1)∧j≤n∧Hid (OwnF wr g (put es j (List.replicate (n - j) 48))∧(∀i,j≤i→i<n→es.getD i 0=57)∧Only g w wr))
 case atStart=>exact ⟨rfl,Nat.le_refl _,by rw [Nat.sub_self];simpa [put_nil] using HO.out,fun i h1 h2=>by omega,Only.refl _ _⟩
 case round=>
  obtain ⟨rfl,hj,I⟩:=hrel
  cases gk with
  | zero=>
   have F:Hid (RaiseTold g es n w (.returned (.bool true)) wr):=by
    refine ⟨true,_,rfl,I.out.1,?_,?_,I.out.2.2⟩
    ·rw [put_length _ _ _ (by simp;have:=HN.out;omega)]
    ·exact raised_all HN.out I.out.2.1
   clear I
   go_wp2_with fail
   go_ret
   exact F.out
  | succ u=>
   rw [show ((u+1:Nat):Int) - 1=(u:Int) by omega]
   have hu:(u:Int)<(n:Int):=by omega
   have hl:(put es (u+1) (List.replicate (n - (u+1)) 48)).length=es.length:=put_length _ _ _ (by simp;have:=HN.out;omega)
   obtain ⟨x,X⟩:∃x,Hid (es.getD u 0=x):=⟨_,rfl⟩
   have hx:wr.cell? ⟨g,u,none⟩=some (.int .u8 x):=by
    rw [I.out.1.cell u (by rw [hl];have:=HN.out;omega),←X.out]
    simp [put,List.getD,List.getElem?_append_left (show u<(es.take (u+1)).length by simp;have:=HN.out;omega)]
   have hf:=I.out.1.free u (by rw [hl];have:=HN.out;omega)
   have hxd:48≤x∧x≤57:=by
    have hlt:u<(es.take n).length:=by simp;have:=HN.out;omega
    have:=HD.out _ (List.getElem_mem hlt)
    rw [←X.out]
    simpa [List.getD,List.getElem?_eq_getElem (show u<es.length by have:=HN.out;omega)] using this
   obtain ⟨hx0,hx1⟩:=hxd
   by_cases h9:x=57
   ·have F:Hid (OwnF (wr.setCell ⟨g,u,none⟩ (.int .u8 48)) g (put es u (List.replicate (n - u) 48))∧(∀i,u≤i→i<n→es.getD i 0=57)∧Only g w (wr.setCell ⟨g,u,none⟩ (.int .u8 48))):=by
     refine ⟨?_,fun i h1 h2=>?_,I.out.2.2.trans (Only.set _ _)⟩
     ·have:=I.out.1.set u 48
      rw [put_head _ _ _ _ (by simp;have:=HN.out;omega),←List.replicate_succ,show n - (u+1)+1=n - u by omega] at this
      exact this
     ·by_cases e:i=u
      ·subst e;rw [X.out];exact h9
      ·exact I.out.2.1 i (by omega) h2
    subst h9
    clear I hl
    go_wp2_with fail
    go_roundg u
    case measure=>omega
    case rel=>exact ⟨by go_num,by omega,F.out⟩
   ·have h9':(x == 57)=false:=by rw [beq_eq_false_iff_ne];exact h9
    have F:Hid (RaiseTold g es n w (.returned (.bool false)) (wr.setCell ⟨g,u,none⟩ (.int .u8 (x+1)))):=by
     have o:=I.out.1.set u (x+1)
     rw [put_head _ _ _ _ (by simp;have:=HN.out;omega)] at o
     refine ⟨false,_,rfl,o,?_,?_,I.out.2.2.trans (Only.set _ _)⟩
     ·rw [put_length _ _ _ (by simp;have:=HN.out;omega)]
     ·exact raised_at HN.out (by omega) X.out h9 HD.out I.out.2.1
    clear I hl
    go_wp2_with fail
    go_ret
    exact F.out
end Go.Proofs.YtbdhlfklcdegdaaGreatDoor

namespace Go.Proofs.YtbdhlfklcdegdaaGreatDoor
namespace Nm
theorem sv32_set:∀(zs:List Int) (i:Nat) (s:Int),i<zs.length→v32 (zs.set i s)=v32 zs+p32 i*(s - zs.getD i 0)
 | [],_,_,h=>by simp at h
 | z::zs,0,s,_=>by simp only [List.set_cons_zero,v32,p32,List.getD_cons_zero];omega
 | z::zs,i+1,s,h=>by
  have:=sv32_set zs i s (by simpa using h)
  simp only [List.set_cons_succ,v32,p32,List.getD_cons_succ,this,Int.mul_add,Int.mul_assoc]
  omega
theorem Halves.set {zs:List Int} (h:Halves zs) (i:Nat) {s:Int} (h0:0≤s) (h1:s<4294967296):Halves (zs.set i s):=by
 intro z hz
 rcases List.mem_or_eq_of_mem_set hz with a | rfl
 ·exact h z a
 ·exact ⟨h0,h1⟩
theorem grow_step {p h m c lo c' T U X:Int} (he:lo+4294967296*c'=h*m+c) (hI:X+p*c=m*T+U):X+p*(lo - h)+p*4294967296*c'=m*(T+p*h)+(U - p*h):=by
 have e1:p*lo+p*(4294967296*c')=p*(h*m)+p*c:=by rw [←Int.mul_add,←Int.mul_add,he]
 have e2:p*(h*m)=m*(p*h):=by rw [←Int.mul_assoc,Int.mul_comm]
 rw [Int.mul_sub,Int.mul_add,Int.mul_assoc]
 omega
end Nm
open Go.RowKit Go.Deep
theorem r_mask32S (x:Int) (h0:0≤x) (h1:x<18446744073709551616):bits .and .u64 x 4294967295=x%4294967296:=by
 obtain ⟨n,rfl⟩:=Int.eq_ofNat_of_zero_le h0
 have h:=bits_and_u64_nat n 4294967295 (by omega) (by omega)
 have e:n &&& 4294967295=n%4294967296:=Nat.and_two_pow_sub_one_eq_mod n 32
 rw [e] at h
 rw [show (4294967295:Int)=((4294967295:Nat):Int) from rfl,h]
 omega
def GInv (base:Nat) (hs os:List Int) (m c0 c:Int) (i:Nat) (mv:Value) (w wr:World):Prop:=
 Row64 base wr mv os∧os.length=hs.length∧Nm.Halves os∧(∀j,i≤j→os.getD j 0=hs.getD j 0)∧Nm.v32 os+Nm.p32 i*c=m*Nm.v32 (hs.take i)+(Nm.v32 hs - Nm.v32 (hs.take i)+c0)∧Below base w wr
theorem GInv.step {base:Nat} {hs os:List Int} {m c0 c:Int} {i g n cap:Nat} {w wr:World} (I:GInv base hs os m c0 c i (.slice (some ⟨g,0,none⟩) n cap) w wr) (hi:i<hs.length) {lo c':Int} (he:lo+4294967296*c'=hs.getD i 0*m+c) (h0:0≤lo) (h1:lo<4294967296) (hb:base≤g):
  GInv base hs (os.set i lo) m c0 c' (i+1) (.slice (some ⟨g,0,none⟩) n cap) w (wr.setCell ⟨g,i,none⟩ (.int .u64 lo)):=by
 obtain ⟨i1,i2,i3,i4,i5,i6⟩:=I
 refine ⟨i1.set i lo,by simpa using i2,i3.set i h0 h1,fun j hj=>?_,?_,i6.trans ⟨rfl,rfl,rfl,by simp [World.setCell],fun j hj=>?_⟩⟩
 ·rw [←i4 j (by omega)]
  simp [List.getD,show ¬i=j by omega]
 ·rw [Nm.sv32_set os i lo (by omega),i4 i (Nat.le_refl _),Nm.v32_take_succ hs i hi]
  have:=Nm.grow_step he i5
  rw [Nm.p32]
  generalize Nm.p32 i=p at *
  rw [show 4294967296*p*c'=p*4294967296*c' by rw [Int.mul_comm 4294967296 p]]
  omega
 ·simp only [World.setCell,Array.getElem?_modify]
  rw [if_neg (by omega)]
end Go.Proofs.YtbdhlfklcdegdaaGreatDoor
