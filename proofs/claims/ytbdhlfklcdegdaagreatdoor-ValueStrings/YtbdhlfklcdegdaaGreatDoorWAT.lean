/-
  Texts put together: FNum, NUpward, NRound, FKp.
-/
import Derived.Test.YtbdhlfklcdegdaaGreatDoorWAH
import Derived.Test.YtbdhlfklcdegdaaGreatDoorWAC
import Derived.Test.YtbdhlfklcdegdaaGreatDoorWAQ
import Derived.Test.YtbdhlfklcdegdaaGreatDoorWAR
import Derived.OwnWalk
namespace Go.Proofs.YtbdhlfklcdegdaaGreatDoor
open Go.RowKit Go.Deep
namespace Fx
def tx (n:Nat) (v:Int):List Int:=(Dn.dg 10 n v).map (fun d=>d+48)
theorem tx_len (n:Nat) (v:Int):(tx n v).length=n:=by simp [tx,Dn.dg_length]
theorem tx_digs (n:Nat) (v:Int):Digs (tx n v):=by
 intro d hd
 obtain ⟨e,he,rfl⟩:=List.mem_map.1 hd
 have:=Dn.dg_mem (B:=10) (by omega) n v e he
 omega
theorem tx_dv {n:Nat} {v:Int} (h0:0≤v) (h1:v<10^n):dv (tx n v)=v:=by
 unfold dv tx
 rw [List.map_map,show ((fun d:Int=>d - 48) ∘ fun d=>d+48)=id from funext fun d=>by simp,List.map_id]
 exact Dn.tv_dg (by omega) n v h0 h1
theorem eq_tx {ds:List Int} (h:Digs ds):ds=tx ds.length (dv ds):=by
 have:=Dn.dg_tv (B:=10) (by omega) ds.length (ds.map (fun d=>d - 48)) (by simp) (fun d hd=>by
  obtain ⟨e,he,rfl⟩:=List.mem_map.1 hd
  have:=h e he
  omega)
 unfold tx dv
 rw [this,List.map_map,show ((fun d:Int=>d+48) ∘ fun d=>d - 48)=id from funext fun d=>by simp,List.map_id]
theorem digs_inj {a b:List Int} (ha:Digs a) (hb:Digs b) (hl:a.length=b.length) (hv:dv a=dv b):a=b:=by
 rw [eq_tx ha,eq_tx hb,hl,hv]
theorem p_pos (k:Nat):(0:Int)<10^k:=Int.pow_pos (by omega)
theorem p_le {a b:Nat} (h:a≤b):(10:Int)^a≤10^b:=by
 obtain ⟨c,rfl⟩:=Nat.exists_eq_add_of_le h
 rw [Int.pow_add]
 have h1:=p_pos a
 have h2:(1:Int)≤10^c:=p_pos c
 have:=Int.mul_le_mul_of_nonneg_left h2 (Int.le_of_lt h1)
 omega
theorem p_lt {a b:Nat} (h:(10:Int)^a<10^b):a<b:=by
 rcases Nat.lt_or_ge a b with c | c
 ·exact c
 ·have:=p_le c
  omega
theorem take_last {xs:List Int} {n:Nat} (hn:xs.length=n+1):xs=xs.take n++[xs.getD n 0]:=by
 have h:=List.take_append_drop n xs
 rw [List.drop_eq_getElem_cons (by omega),List.drop_of_length_le (by omega)] at h
 simpa [List.getD,show n<xs.length by omega] using h.symm
theorem dv_snoc (xs:List Int) (x:Int):dv (xs++[x])=dv xs*10+(x - 48):=by
 rw [dv_append,dv_cons]
 simp [dv,Dn.tv]
theorem digs_getD {xs:List Int} (h:Digs xs) {i:Nat} (hi:i<xs.length):48≤xs.getD i 0∧xs.getD i 0≤57:=digs_at h i hi
theorem dv_mod {xs:List Int} {n:Nat} (h:Digs xs) (hn:xs.length=n+1):dv xs%10=xs.getD n 0 - 48:=by
 have b:=digs_getD h (show n<xs.length by omega)
 generalize hx:xs.getD n 0=x at *
 have e:=take_last hn
 rw [hx] at e
 rw [e,dv_snoc]
 omega
theorem head_low {xs:List Int} {n:Nat} (h:Digs xs) (hn:xs.length=n+1) (hh:xs.getD 0 0≠48):10^n≤dv xs:=by
 match xs,hn with
 | x::ys,hn=>
  have hl:ys.length=n:=by simpa using hn
  have b:=dv_bd (ds:=ys) (fun d hd=>h d (by simp [hd]))
  have hx:=h x (by simp)
  have hx1:49≤x:=by simp at hh;omega
  rw [dv_cons,hl]
  have:=Int.mul_le_mul_of_nonneg_right (show (1:Int)≤x - 48 by omega) (Int.le_of_lt (p_pos n))
  omega
theorem len_eq {xs ys:List Int} (hx:Digs xs) (hy:Digs ys) (nx:xs≠[]) (ny:ys≠[]) (h1:xs.getD 0 0≠48) (h2:ys.getD 0 0≠48) (hv:dv xs=dv ys):xs.length=ys.length:=by
 obtain ⟨a,ha⟩:∃a,xs.length=a+1:=⟨xs.length - 1,by have:=List.length_pos_iff.2 nx;omega⟩
 obtain ⟨b,hb⟩:∃b,ys.length=b+1:=⟨ys.length - 1,by have:=List.length_pos_iff.2 ny;omega⟩
 have l1:=head_low hx ha h1
 have l2:=head_low hy hb h2
 have u1:=(dv_bd hx).2
 have u2:=(dv_bd hy).2
 have:=p_lt (a:=a) (b:=ys.length) (by omega)
 have:=p_lt (a:=b) (b:=xs.length) (by omega)
 omega
structure Nml (xs:List Int):Prop where
 digs:Digs xs
 ne:xs≠[]
 head:xs.getD 0 0≠48
 last:xs.getD (xs.length - 1) 0≠48
theorem Nml.len {xs:List Int} (h:Nml xs):∃n,xs.length=n+1:=⟨xs.length - 1,by have:=List.length_pos_iff.2 h.ne;omega⟩
theorem Nml.mod {xs:List Int} (h:Nml xs):dv xs%10≠0:=by
 obtain ⟨n,hn⟩:=h.len
 have e:=dv_mod h.digs hn
 have l:=h.last
 rw [hn,Nat.add_sub_cancel] at l
 omega
theorem nml_le {xs ys:List Int} {a b:Nat} (hx:Nml xs) (_hy:Nml ys) (h:dv xs*10^a=dv ys*10^b):b≤a:=by
 rcases Nat.lt_or_ge a b with c | c
 ·exfalso
  obtain ⟨d,rfl⟩:=Nat.exists_eq_add_of_lt c
  rw [show a+d+1=(d+1)+a by omega,Int.pow_add,←Int.mul_assoc] at h
  have e:=Int.eq_of_mul_eq_mul_right (by have:=p_pos a;omega) h
  rw [Int.pow_succ,←Int.mul_assoc] at e
  have:=hx.mod
  omega
 ·exact c
theorem nml_one {xs ys:List Int} {a b:Nat} (hx:Nml xs) (hy:Nml ys) (h:dv xs*10^a=dv ys*10^b):xs=ys∧a=b:=by
 have e:a=b:=Nat.le_antisymm (nml_le hy hx h.symm) (nml_le hx hy h)
 subst e
 have v:=Int.eq_of_mul_eq_mul_right (by have:=p_pos a;omega) h
 exact ⟨digs_inj hx.digs hy.digs (len_eq hx.digs hy.digs hx.ne hy.ne hx.head hy.head v) v,rfl⟩
theorem nml_take {ys:List Int} {k:Nat} (hd:Digs ys) (hh:ys.getD 0 0≠48) (hk:k≤ys.length) (h0:∀i,k≤i→i<ys.length→ys.getD i 0=48) (hl:0<k→ys.getD (k - 1) 0≠48) (hv:0<dv ys):0<k∧Nml (ys.take k)∧dv (ys.take k)*10^(ys.length - k)=dv ys:=by
 have e:ys.drop k=List.replicate (ys.length - k) 48:=by
  apply List.ext_getElem
  ·simp
  ·intro i h1 h2
   have h3:=h0 (k+i) (by omega) (by simp at h1;omega)
   simp at h1
   simpa [List.getD,show k+i<ys.length by omega] using h3
 have v:dv (ys.take k)*10^(ys.length - k)=dv ys:=by
  conv=>rhs;rw [←List.take_append_drop k ys,dv_append,e,dv_zeros]
  simp
 have kp:0<k:=by
  rcases Nat.eq_zero_or_pos k with c | c
  ·subst c
   rw [List.take_zero,show dv []=0 from rfl,Int.zero_mul] at v
   omega
  ·exact c
 refine ⟨kp,⟨fun d h=>hd d (List.mem_of_mem_take h),?_,?_,?_⟩,v⟩
 ·intro c
  have e1:(ys.take k).length=k:=by rw [List.length_take];omega
  rw [c,List.length_nil] at e1
  omega
 ·simpa [List.getD,kp] using hh
 ·have:=hl kp
  have hm:min k ys.length=k:=by omega
  rw [List.length_take,hm]
  simpa [List.getD,show k - 1<k by omega] using this
theorem log_ex:∀(n:Nat),0<n→∃L:Nat,10^L≤n∧n<10^(L+1):=by
 intro n
 induction n using Nat.strongRecOn with
 | _ n ih=>
  intro h
  rcases Nat.lt_or_ge n 10 with c | c
  ·exact ⟨0,by simp;omega,by simp;omega⟩
  ·obtain ⟨L,l1,l2⟩:=ih (n/10) (by omega) (by omega)
   refine ⟨L+1,?_,?_⟩
   ·rw [Nat.pow_succ];omega
   ·rw [Nat.pow_succ];omega
theorem nml_ex:∀(n:Nat),0<n→∃xs a,Nml xs∧dv xs*10^a=(n:Int):=by
 intro n
 induction n using Nat.strongRecOn with
 | _ n ih=>
  intro h
  rcases Nat.eq_zero_or_pos (n%10) with c | c
  ·obtain ⟨xs,a,h1,h2⟩:=ih (n/10) (by omega) (by omega)
   refine ⟨xs,a+1,h1,?_⟩
   rw [Int.pow_succ,←Int.mul_assoc,h2]
   omega
  ·obtain ⟨L,l1,l2⟩:=log_ex n h
   have l1':(10:Int)^L≤(n:Int):=by have:=Int.ofNat_le.2 l1;simpa using this
   have l2':(n:Int)<(10:Int)^(L+1):=by have:=Int.ofNat_lt.2 l2;simpa using this
   have hd:=tx_digs (L+1) (n:Int)
   have hl:=tx_len (L+1) (n:Int)
   have hv:=tx_dv (n:=L+1) (v:=(n:Int)) (by omega) l2'
   refine ⟨tx (L+1) n,0,⟨hd,fun e=>by rw [e] at hl;simp at hl,?_,?_⟩,by rw [hv];simp⟩
   ·match htx:tx (L+1) (n:Int),hl with
    | x::ys,hl=>
     rw [htx] at hv hd
     intro e
     simp at e
     have b:=(dv_bd (ds:=ys) (fun d h=>hd d (by simp [h]))).2
     rw [dv_cons,e] at hv
     have:ys.length=L:=by simpa using hl
     rw [this] at b
     omega
   ·have:=dv_mod hd hl
    rw [hl,Nat.add_sub_cancel]
    omega
def F5:Int:=5^1074
theorem F5_pos:0<F5:=by unfold F5;exact Int.pow_pos (by omega)
theorem five_low:(10:Nat)^750≤5^1074:=by decide +kernel
theorem five_high:(2:Nat)^2098*5^1074<2*10^1382:=by decide +kernel
theorem F5_low:(10:Int)^750≤F5:=by
 have:=Int.ofNat_le.2 five_low
 unfold F5
 generalize 750=a,1074=b at this ⊢
 rw [Int.natCast_pow,Int.natCast_pow] at this
 exact this
theorem F5_high:(2:Int)^2098*F5<2*10^1382:=by
 have:=Int.ofNat_lt.2 five_high
 unfold F5
 generalize 2098=a,1074=b,1382=c at this ⊢
 rw [Int.natCast_mul,Int.natCast_mul,Int.natCast_pow,Int.natCast_pow,Int.natCast_pow] at this
 exact this
structure Ex (m e:Int) (xs:List Int) (E:Int):Prop where
 lo:-1074≤E
 zero:m=0→xs=[48]∧E=0
 nml:0<m→Nml xs
 eq:0<m→dv xs*10^(E+1074).toNat=m*2^(e+1074).toNat*F5
theorem Ex.digs {m e:Int} {xs:List Int} {E:Int} (hm:0≤m) (h:Ex m e xs E):Digs xs∧xs≠[]:=by
 rcases (show m=0∨0<m by omega) with c | c
 ·rw [(h.zero c).1]
  exact ⟨fun d hd=>by simp at hd;omega,by simp⟩
 ·exact ⟨(h.nml c).digs,(h.nml c).ne⟩
theorem Ex.one {m e:Int} {xs ys:List Int} {E F:Int} (hm:0≤m) (h:Ex m e xs E) (k:Ex m e ys F):xs=ys∧E=F:=by
 rcases (show m=0∨0<m by omega) with c | c
 ·exact ⟨by rw [(h.zero c).1,(k.zero c).1],by rw [(h.zero c).2,(k.zero c).2]⟩
 ·obtain ⟨e1,e2⟩:=nml_one (h.nml c) (k.nml c) (by rw [h.eq c,k.eq c])
  exact ⟨e1,by have:=h.lo;have:=k.lo;omega⟩
theorem ex_ex (m e:Int) (hm:0≤m):∃xs E,Ex m e xs E:=by
 rcases (show m=0∨0<m by omega) with c | c
 ·exact ⟨[48],0,by omega,fun _=>⟨rfl,rfl⟩,fun h=>by omega,fun h=>by omega⟩
 ·have hN:0<m*2^(e+1074).toNat*F5:=Int.mul_pos (Int.mul_pos c (Int.pow_pos (by omega))) F5_pos
  obtain ⟨xs,a,h1,h2⟩:=nml_ex (m*2^(e+1074).toNat*F5).toNat (by omega)
  refine ⟨xs,(a:Int) - 1074,by omega,fun h=>by omega,fun _=>h1,fun _=>?_⟩
  rw [show ((a:Int) - 1074+1074).toNat=a by omega,h2]
  omega
theorem Ex.room {m e:Int} {xs:List Int} {E:Int} (hm:0<m) (hm1:m<9007199254740992) (he:e≤971) (h:Ex m e xs E):
  -323≤xs.length+E∧xs.length+E≤309∧((xs.length:Int)+E=309→dv xs<2*10^(xs.length - 1)):=by
 obtain ⟨a,ha⟩:∃a:Nat,(E+1074).toNat=a:=⟨_,rfl⟩
 obtain ⟨k,hk⟩:∃k:Nat,(e+1074).toNat=k:=⟨_,rfl⟩
 have hk1:k≤2045:=by omega
 have q:=h.eq hm
 rw [ha,hk] at q
 have p2:(0:Int)<2^k:=Int.pow_pos (by omega)
 have f0:=F5_pos
 have low:(10:Int)^750≤m*2^k*F5:=by
  have h1:(1:Int)≤m*2^k:=Int.mul_pos hm p2
  have:=Int.mul_le_mul_of_nonneg_right h1 (Int.le_of_lt f0)
  have:=F5_low
  omega
 have high:m*2^k*F5<2*10^1382:=by
  have h1:m*2^k≤2^2098:=by
   have e1:(2:Int)^2098=2^53*(2^(2045 - k)*2^k):=by rw [←Int.pow_add,←Int.pow_add];congr 1;omega
   rw [e1,←Int.mul_assoc]
   refine Int.mul_le_mul_of_nonneg_right ?_ (Int.le_of_lt p2)
   have h3:(1:Int)≤2^(2045 - k):=Int.pow_pos (by omega)
   have h4:(2:Int)^53=9007199254740992:=by decide
   rw [h4]
   generalize (2:Int)^(2045 - k)=z at h3
   omega
  have:=Int.mul_le_mul_of_nonneg_right h1 (Int.le_of_lt f0)
  have:=F5_high
  omega
 obtain ⟨n,hn⟩:=(h.nml hm).len
 have b1:=head_low (h.nml hm).digs hn (h.nml hm).head
 have b2:=(dv_bd (h.nml hm).digs).2
 rw [←q] at low high
 have pa:=p_pos a
 have c1:(10:Int)^(n+a)≤dv xs*10^a:=by rw [Int.pow_add];exact Int.mul_le_mul_of_nonneg_right b1 (Int.le_of_lt pa)
 have c2:dv xs*10^a<10^(xs.length+a):=by rw [Int.pow_add];exact Int.mul_lt_mul_of_pos_right b2 pa
 have d1:n+a<1383:=p_lt (by
  have:(10:Int)^1383=10^1382*10:=Int.pow_succ ..
  rw [this]
  have:=p_pos 1382
  generalize (10:Int)^1382=z at *
  omega)
 have d2:750<xs.length+a:=p_lt (by
  generalize (10:Int)^750=z at *
  omega)
 have lo:=h.lo
 refine ⟨by omega,by omega,fun c=>?_⟩
 have e1:1382=n+a:=by omega
 rw [e1,Int.pow_add,←Int.mul_assoc] at high
 rw [hn,Nat.add_sub_cancel]
 exact Int.lt_of_mul_lt_mul_right high (Int.le_of_lt pa)
noncomputable def xd (m e:Int):List Int:=open Classical in if h:∃p:List Int × Int,Ex m e p.1 p.2 then (Classical.choose h).1 else []
noncomputable def ed (m e:Int):Int:=open Classical in if h:∃p:List Int × Int,Ex m e p.1 p.2 then (Classical.choose h).2 else 0
theorem ex_is {m e:Int} (hm:0≤m):Ex m e (xd m e) (ed m e):=by
 obtain ⟨xs,E,h⟩:=ex_ex m e hm
 have k:∃p:List Int × Int,Ex m e p.1 p.2:=⟨(xs,E),h⟩
 unfold xd ed
 rw [dif_pos k,dif_pos k]
 exact Classical.choose_spec k
theorem Ex.is {m e:Int} {xs:List Int} {E:Int} (hm:0≤m) (h:Ex m e xs E):xs=xd m e∧E=ed m e:=h.one hm (ex_is hm)
theorem ex_of {m e:Int} {ys:List Int} {k:Nat} {F:Int} (hm:0<m) (hd:Digs ys) (hh:ys.getD 0 0≠48) (hk:k≤ys.length) (h0:∀i,k≤i→i<ys.length→ys.getD i 0=48) (hl:0<k→ys.getD (k - 1) 0≠48)
  (hF:-1074≤F) (hv:dv ys*10^(F+1074).toNat=m*2^(e+1074).toNat*F5):Ex m e (ys.take k) (F+(ys.length - k))∧0<k:=by
 have vp:0<dv ys:=by
  have hN:0<m*2^(e+1074).toNat*F5:=Int.mul_pos (Int.mul_pos hm (Int.pow_pos (by omega))) F5_pos
  rw [←hv] at hN
  have:=(dv_bd hd).1
  rcases (show dv ys=0∨0<dv ys by omega) with c | c
  ·rw [c,Int.zero_mul] at hN;omega
  ·exact c
 obtain ⟨kp,n,v⟩:=nml_take hd hh hk h0 hl vp
 refine ⟨⟨by omega,fun c=>by omega,fun _=>n,fun _=>?_⟩,kp⟩
 rw [←hv,←v,show (F+((ys.length:Int) - (k:Int))+1074).toNat=(ys.length - k)+(F+1074).toNat by omega,Int.pow_add,Int.mul_assoc]
end Fx
end Go.Proofs.YtbdhlfklcdegdaaGreatDoor

namespace Go.Proofs.YtbdhlfklcdegdaaGreatDoor
open Go.RowKit Go.Deep
def UpIs (ds ys:List Int) (more u:Bool):Prop:=
 (u=true→10^ys.length≤2*dv ys∧(2*dv ys=10^ys.length→more=true∨dv ds%2=1))∧(u=false→2*dv ys≤10^ys.length∧(2*dv ys=10^ys.length→more=false∧dv ds%2=0))
theorem dv_first {y:Int} {rest:List Int} (h:Digs (y::rest)):∃P:Int,0<P∧(10:Int)^(y::rest).length=10*P∧dv (y::rest)=(y - 48)*P+dv rest∧0≤dv rest∧dv rest<P:=by
 have hr:Digs rest:=fun d hd=>h d (by simp [hd])
 have b:=dv_bd hr
 refine ⟨10^rest.length,Int.pow_pos (by omega),by rw [List.length_cons,Int.pow_succ,Int.mul_comm],dv_cons y rest,b.1,b.2⟩
theorem dv_zero_iff:∀{ds:List Int},Digs ds→(dv ds=0↔∀i,i<ds.length→ds.getD i 0=48)
 | [],_=>by simp [dv,Dn.tv]
 | d::ds,h=>by
  have hr:Digs ds:=fun e he=>h e (by simp [he])
  have b:=dv_bd hr
  have hd:=h d (by simp)
  have hP:(0:Int)<10^ds.length:=Int.pow_pos (by omega)
  rw [dv_cons]
  constructor
  ·intro c
   have h1:0≤(d - 48)*10^ds.length:=Int.mul_nonneg (by omega) (Int.le_of_lt hP)
   have h2:(d - 48)*10^ds.length=0:=by omega
   have h3:d - 48=0:=by
    rcases Int.mul_eq_zero.1 h2 with e | e
    ·exact e
    ·omega
   have h4:dv ds=0:=by omega
   intro i hi
   cases i with
   | zero=>simp;omega
   | succ i=>simpa using (dv_zero_iff hr).1 h4 i (by simpa using hi)
  ·intro c
   have h1:d=48:=by simpa using c 0 (by simp)
   have h2:dv ds=0:=(dv_zero_iff hr).2 (fun i hi=>by simpa using c (i+1) (by simpa using hi))
   rw [h1,h2]
   simp
theorem up_over {ds ys:List Int} {more:Bool} {y:Int} {rest:List Int} (hy:ys=y::rest) (hd:Digs ys) (h:53<y):UpIs ds ys more true:=by
 subst hy
 obtain ⟨P,p1,p2,p3,p4,p5⟩:=dv_first hd
 have:6*P≤(y - 48)*P:=Int.mul_le_mul_of_nonneg_right (by omega) (by omega)
 refine ⟨fun _=>⟨by omega,fun c=>by omega⟩,fun c=>by cases c⟩
theorem up_under {ds ys:List Int} {more:Bool} {y:Int} {rest:List Int} (hy:ys=y::rest) (hd:Digs ys) (h:y<53):UpIs ds ys more false:=by
 subst hy
 obtain ⟨P,p1,p2,p3,p4,p5⟩:=dv_first hd
 have:(y - 48)*P≤4*P:=Int.mul_le_mul_of_nonneg_right (by omega) (by omega)
 refine ⟨fun c=>(by cases c),fun _=>⟨by omega,fun c=>by omega⟩⟩
theorem up_more {ds ys:List Int} {rest:List Int} (hy:ys=53::rest) (hd:Digs ys):UpIs ds ys true true:=by
 subst hy
 obtain ⟨P,p1,p2,p3,p4,p5⟩:=dv_first hd
 refine ⟨fun _=>⟨by omega,fun c=>.inl rfl⟩,fun c=>by cases c⟩
theorem up_rest {ds ys:List Int} {more:Bool} {rest:List Int} (hy:ys=53::rest) (hd:Digs ys) (h:dv rest≠0):UpIs ds ys more true:=by
 subst hy
 obtain ⟨P,p1,p2,p3,p4,p5⟩:=dv_first hd
 refine ⟨fun _=>⟨by omega,fun c=>by omega⟩,fun c=>by cases c⟩
theorem up_half {ds ys:List Int} {rest:List Int} (hy:ys=53::rest) (hd:Digs ys) (h:dv rest=0) {u:Bool} (hu:u=decide (dv ds%2=1)):UpIs ds ys false u:=by
 subst hy
 obtain ⟨P,p1,p2,p3,p4,p5⟩:=dv_first hd
 refine ⟨fun c=>⟨by omega,fun _=>.inr ?_⟩,fun c=>⟨by omega,fun _=>⟨rfl,?_⟩⟩⟩
 ·rw [c] at hu
  exact of_decide_eq_true hu.symm
 ·rw [c] at hu
  have:=of_decide_eq_false hu.symm
  omega
theorem dv_last {ds:List Int} {n:Nat} (hn:ds.length=n+1):dv ds%2=ds.getD n 0%2:=by
 have e:ds=ds.take n++[ds.getD n 0]:=by
  have h:=List.take_append_drop n ds
  rw [List.drop_eq_getElem_cons (by omega),List.drop_of_length_le (by omega)] at h
  simpa [List.getD,show n<ds.length by omega] using h.symm
 generalize ds.getD n 0=x at *
 rw [e,dv_append,dv_cons]
 simp [dv,Dn.tv]
 omega
def UpTold (ds ys:List Int) (more:Bool) (e:Ending):Prop:=∃u,e=.returned (.bool u)∧UpIs ds ys more u
set_option maxRecDepth 100000 in
set_option maxHeartbeats 2000000 in
theorem upward_any (g n cap:Nat) (es ys:List Int) (sd:ByteArray) (more:Bool) (w:World) (ho:OwnF w g es) (hn:n≤es.length) (hnb:n≤140737488351232) (hs:Str sd ys) (hy0:ys≠[]) (hyb:ys.length≤140737488351232) (hd:Digs ys) (hde:Digs (es.take n)):
  Calls Tryz.prog 282 #[.slice (some ⟨g,0,none⟩) n cap,.string sd,.bool more] w fun e w'=>UpTold (es.take n) ys more e∧Below w.heap.size w w':=by
 obtain ⟨y,rest,hys⟩:=List.exists_cons_of_ne_nil hy0
 obtain ⟨m,HM⟩:∃m,Hid (ys.length=m):=⟨_,rfl⟩
 have hsz:sd.size=m:=by rw [hs.size,HM.out]
 have hm0:0<m:=by have:=HM.out;rw [hys] at this;simp at this;omega
 have hmi:(0:Int)<(m:Int):=by omega
 have hmb:(m:Int)≤140737488351232:=by have:=HM.out;omega
 have hx:∀h:0<sd.size,((sd[0]'h).toNat:Int)=y:=fun h=>by rw [hs.at 0 h,hys];rfl
 have hyd:=hd y (by rw [hys];simp)
 have SR:Str (sd.extract 1 m) rest:=by
  have:=hs.extract 1 m
  rw [hys,List.drop_succ_cons,List.drop_zero,List.take_of_length_le (by have:=HM.out;rw [hys] at this;simp at this;omega)] at this
  exact this
 have TR:=hid (trim0_any (sd.extract 1 m) rest w SR (by have:=HM.out;rw [hys] at this;simp at this;omega))
 have HY:=hid hys
 have HD:=hid hd
 have HO:=hid ho
 have HN:=hid hn
 have hnbi:(n:Int)≤140737488351232:=by omega
 obtain ⟨hyd0,hyd1⟩:=hyd
 clear ho hn hs hy0 hyb hys SR hd
 rcases (show 53<y∨y<53∨y=53 by omega) with h | h | h
 ·have F:=hid (up_over (ds:=es.take n) (more:=more) HY.out HD.out h)
  have hne:(y == 53)=false:=by rw [beq_eq_false_iff_ne];omega
  go_enter Tryz.func282,Tryz.ntmps282
  go_wp2_with fail
  go_ret
  exact ⟨⟨_,rfl,F.out⟩,Below.refl _ _⟩
 ·have F:=hid (up_under (ds:=es.take n) (more:=more) HY.out HD.out h)
  have hne:(y == 53)=false:=by rw [beq_eq_false_iff_ne];omega
  have hnl:¬53<y:=by omega
  go_enter Tryz.func282,Tryz.ntmps282
  go_wp2_with fail
  go_ret
  exact ⟨⟨_,rfl,F.out⟩,Below.refl _ _⟩
 ·subst h
  cases more with
  | true=>
   have F:=hid (up_more (ds:=es.take n) HY.out HD.out)
   go_enter Tryz.func282,Tryz.ntmps282
   go_wp2_with fail
   go_ret
   exact ⟨⟨_,rfl,F.out⟩,Below.refl _ _⟩
  | false=>
   go_enter Tryz.func282,Tryz.ntmps282
   go_wp2_with fail
   refine TR.out.mono ?_
   rintro e w1 ⟨⟨s',rfl,hz⟩,d1⟩
   have D1:=hid d1
   have hr:Digs rest:=fun d hd=>HD.out d (by rw [HY.out];simp [hd])
   have zi:=dv_zero_iff hr
   by_cases hzr:dv rest=0
   ·have e1:s'.toList=[]:=hz.2 (zi.1 hzr)
    have UH:=hid (fun (u:Bool) (hu:u=decide (dv (es.take n)%2=1))=>up_half (ds:=es.take n) HY.out HD.out hzr hu)
    have O1:=hid (HO.out.below d1 HO.out.lt)
    clear hz zi hr d1 TR hzr
    cases n with
    | zero=>
     have F:=hid (UH.out false (by simp [dv,Dn.tv]))
     go_wp2_with fail
     go_ret
     exact ⟨⟨_,rfl,F.out⟩,D1.out⟩
    | succ k=>
     obtain ⟨N,HNk⟩:∃N,Hid (k+1=N):=⟨_,rfl⟩
     have hNk:(N:Int) - 1=(k:Int):=by have:=HNk.out;omega
     have hkN:(k:Int)<(N:Int):=by have:=HNk.out;omega
     have hN0:(0:Int)<(N:Int):=by have:=HNk.out;omega
     have hNb:(N:Int)≤140737488351232:=by have:=HNk.out;omega
     obtain ⟨x,X⟩:∃x,Hid (es.getD k 0=x):=⟨_,rfl⟩
     have hc:w1.cell? ⟨g,k,none⟩=some (.int .u8 x):=by rw [O1.out.cell k (by have:=HN.out;omega),X.out]
     have LP:Hid (dv (es.take (k+1))%2=x%2):=by
      show _=_
      rw [dv_last (n:=k) (by simp;have:=HN.out;omega),←X.out]
      simp [List.getD]
     rw [HNk.out] at UH LP ⊢
     have x0:0≤x∧x<256:=by
      have hlt:k<(es.take (k+1)).length:=by simp;have:=HN.out;omega
      have:=hde _ (List.getElem_mem hlt)
      have e:(es.take (k+1))[k]=x:=by rw [←X.out];simp [List.getD,List.getElem?_eq_getElem (show k<es.length by have:=HN.out;omega)]
      rw [e] at this
      omega
     obtain ⟨b,hb⟩:∃b,x%2=b:=⟨_,rfl⟩
     have hb2:x.tmod 2=b:=by rw [Int.tmod_eq_emod_of_nonneg x0.1];exact hb
     have q1:IntKind.i64.wrap ((N:Int) - 1)=(k:Int):=by rw [IntKind.wrap_i64];omega
     have q2:IntKind.i64.wrap (k:Int)=(k:Int):=by rw [IntKind.wrap_i64];omega
     have b01:b=1∨b=0:=by omega
     clear hNb hnb hnbi hde
     rcases b01 with c | c
     ·subst c
      have F:=hid (UH.out true (by rw [LP.out,hb];rfl))
      clear UH
      go_wp2_with fail
      go_ret
      exact ⟨⟨_,rfl,by have h:=F.out;rw [←HNk.out] at h;exact h⟩,D1.out⟩
     ·subst c
      have F:=hid (UH.out false (by rw [LP.out,hb];rfl))
      clear UH
      go_wp2_with fail
      go_ret
      exact ⟨⟨_,rfl,by have h:=F.out;rw [←HNk.out] at h;exact h⟩,D1.out⟩
   ·have e1:s'.toList≠[]:=fun c=>hzr (zi.2 (hz.1 c))
    have e2:(s'.toList == [])=false:=by rw [beq_eq_false_iff_ne];exact e1
    have e3:s'.toList.isEmpty=false:=by rw [List.isEmpty_eq_false_iff];exact e1
    have F:=hid (up_rest (ds:=es.take n) (more:=false) HY.out HD.out hzr)
    clear hz zi hr d1 TR hzr
    go_wp2_with fail
    go_ret
    exact ⟨⟨_,rfl,F.out⟩,D1.out⟩
end Go.Proofs.YtbdhlfklcdegdaaGreatDoor

namespace Go.Proofs.YtbdhlfklcdegdaaGreatDoor
open Go.RowKit Go.Deep
def Rounded (xs ds:List Int) (k:Nat) (more c:Bool):Prop:=
 Digs ds∧ds.length=k∧∃u,UpIs (xs.take k) (xs.drop k) more u∧dv ds+(if c then 10^k else 0)=dv (xs.take k)+(if u then 1 else 0)
def RoundTold (s:ByteArray) (xs:List Int) (keep:Int) (more:Bool) (e:Ending):Prop:=
 ((xs.length:Int)≤keep→e=.returned (.tuple #[.string s,.bool false,.int .i64 0]))∧
 (keep<(xs.length:Int)→∃s' ds c,e=.returned (.tuple #[.string s',.bool c,.int .i64 0])∧Str s' ds∧Rounded xs ds keep.toNat more c)
theorem bytes_own {s:ByteArray} {xs:List Int} (hs:Str s xs) (w:World) (cap:Nat):OwnF (w.drew.alloc (.cells (bytesRow s cap) 5 ((bytesRow s cap).size,(bytesRow s cap).size+1))) w.heap.size (xs++List.replicate (cap - xs.length) 0):=by
 have e:bytesRow s cap=((xs++List.replicate (cap - xs.length) 0).map (Value.int .u8)).toArray:=by
  unfold bytesRow
  rw [hs.size]
  apply Array.toList_inj.1
  rw [←hs]
  simp
 refine ⟨(bytesRow s cap).size,(bytesRow s cap).size+1,?_,?_⟩
 ·show (w.heap.push _)[w.heap.size]?=_
  rw [Array.getElem?_push,if_pos rfl,←e]
 ·rw [e]
  simp
set_option maxRecDepth 100000 in
set_option maxHeartbeats 4000000 in
theorem round_any (s:ByteArray) (xs:List Int) (keep:Int) (more:Bool) (w:World) (hs:Str s xs) (h0:xs≠[]) (hd:Digs xs) (hl:xs.length≤140737488351232) (hk:0≤keep) (hk1:keep≤9223372036854775807):
  Calls Tryz.prog 269 #[.string s,.int .i64 keep,.bool more] w fun e w'=>RoundTold s xs keep more e∧Below w.heap.size w w':=by
 obtain ⟨n,HN⟩:∃n,Hid (xs.length=n):=⟨_,rfl⟩
 have hsz:s.size=n:=by rw [hs.size,HN.out]
 have e1:s.toList≠[]:=fun c=>h0 ((str_nil hs).1 c)
 have e2:(s.toList == [])=false:=by rw [beq_eq_false_iff_ne];exact e1
 have e3:s.toList.isEmpty=false:=by rw [List.isEmpty_eq_false_iff];exact e1
 have WR:Hid (Calls Tryz.prog 96 #[.string s,.int .u64 10] w fun e w'=>e=.returned (.int .i64 (-1))∧w'=w):=by
  refine (wrong_any s xs xs.length 10 w hs rfl (by omega)).mono ?_
  rintro e w' ⟨⟨r,rfl,k⟩,rfl⟩
  cases k with
  | none _=>exact ⟨rfl,rfl⟩
  | here t h1 h2 h3=>
   exfalso
   have:=digs_at hd t h1
   rw [wv_dig this] at h3
   omega
 by_cases hge:(n:Int)≤keep
 ·have CL:=hid (clone_any s w (by rw [hsz];have:=HN.out;omega))
  have F:Hid (RoundTold s xs keep more (.returned (.tuple #[.string s,.bool false,.int .i64 0]))):=⟨fun _=>rfl,fun c=>by have:=HN.out;omega⟩
  clear hs h0 hd hl
  go_enter Tryz.func269,Tryz.ntmps269
  go_wp2_with fail
  refine WR.out.mono ?_
  rintro e w' ⟨rfl,rfl⟩
  go_wp2_with fail
  refine CL.out.mono ?_
  rintro e w1 ⟨rfl,d1⟩
  have D1:=hid d1
  clear d1
  go_wp2_with fail
  go_ret3
  exact ⟨F.out,D1.out⟩
 ·have hlt:keep<(n:Int):=by omega
  obtain ⟨k,HK⟩:∃k,Hid (keep.toNat=k):=⟨_,rfl⟩
  have hkk:keep=(k:Int):=by have:=HK.out;omega
  have hkn:k<n:=by omega
  have ST:=hs.extract 0 k
  rw [List.drop_zero,Nat.sub_zero] at ST
  have SD:=hs.extract k n
  rw [List.take_of_length_le (by have:=HN.out;simp;omega)] at SD
  have hz1:(s.extract 0 k).size=k:=by rw [ST.size];have:=HN.out;simp;omega
  have CV:=run_bytes_of_string (P:=Tryz.prog) w 9 146 5 (s.extract 0 k) Tryz.underlying9 Tryz.underlying146 Tryz.underlying5
  rw [hz1] at CV
  obtain ⟨cap,hcap⟩:∃cap,grownCap w k 0 5=cap:=⟨_,rfl⟩
  rw [hcap] at CV
  have OF:=bytes_own ST w cap
  have BW:Below w.heap.size w (w.drew.alloc (.cells (bytesRow (s.extract 0 k) cap) 5 ((bytesRow (s.extract 0 k) cap).size,(bytesRow (s.extract 0 k) cap).size+1))):=(below_drewN (Below.refl _ _) 1).alloc (Nat.le_refl _) _
  obtain ⟨w1,hw1⟩:∃w1,w.drew.alloc (.cells (bytesRow (s.extract 0 k) cap) 5 ((bytesRow (s.extract 0 k) cap).size,(bytesRow (s.extract 0 k) cap).size+1))=w1:=⟨_,rfl⟩
  rw [hw1] at CV OF BW
  obtain ⟨es,hes⟩:∃es,xs.take k++List.replicate (cap - (xs.take k).length) 0=es:=⟨_,rfl⟩
  rw [hes] at OF
  have htk:(xs.take k).length=k:=by have:=HN.out;simp;omega
  have est:es.take k=xs.take k:=by rw [←hes,List.take_append_of_le_length (by omega),List.take_of_length_le (by omega)]
  have esl:k≤es.length:=by rw [←hes];simp;have:=HN.out;omega
  have dk:Digs (es.take k):=by rw [est];exact fun d h=>hd d (List.mem_of_mem_take h)
  have UP:=hid (upward_any w.heap.size k cap es (xs.drop k) (s.extract k n) more w1 OF esl (by have:=HN.out;omega) SD (fun c=>by have:=congrArg List.length c;have:=HN.out;simp at *;omega) (by simp;omega) (fun d h=>hd d (List.mem_of_mem_drop h)) dk)
  rw [est] at UP
  have EST:=hid est
  have ESL:=hid esl
  have HOF:=hid OF
  have D1:=hid BW
  have DK:=hid dk
  have FIN:Hid (∀(W:World) (fs:List Int) (c u:Bool),OwnF W w.heap.size fs→k≤fs.length→UpIs (xs.take k) (xs.drop k) more u→Digs (fs.take k)→dv (fs.take k)+(if c then 10^k else 0)=dv (xs.take k)+(if u then 1 else 0)→
    (convert 146 9 (.slice (some ⟨w.heap.size,0,none⟩) k cap)).run Tryz.prog W=.ok (.string (strOfNums (fs.take k))) W∧RoundTold s xs keep more (.returned (.tuple #[.string (strOfNums (fs.take k)),.bool c,.int .i64 0]))):=by
   intro W fs c u o hl h1 h2 h3
   have hlen:(fs.take k).length=k:=by simp;omega
   refine ⟨run_convert_bytes_arg (P:=Tryz.prog) W 146 5 Tryz.underlying146 Tryz.underlying5 w.heap.size 0 k cap (fs.take k) hlen (fun i hi=>?_) 9 Tryz.underlying9,fun c=>by have:=HN.out;omega,fun _=>⟨_,fs.take k,c,rfl,Str.of_nums (fun x hx=>by have:=h2 x hx;omega),?_⟩⟩
   ·rw [Nat.zero_add,o.cell i (by omega)]
    simp [List.getD,hi]
   ·rw [HK.out]
    exact ⟨h2,hlen,u,h1,h3⟩
  have hkni:(k:Int)<(n:Int):=by omega
  have hnb:(n:Int)≤140737488351232:=by have:=HN.out;omega
  subst hkk
  clear hs h0 hd hl hlt hge ST SD OF BW hes est esl htk dk hw1 hcap hk1 hk
  go_enter Tryz.func269,Tryz.ntmps269
  go_wp2_with fail
  refine WR.out.mono ?_
  rintro e w' ⟨rfl,rfl⟩
  go_wp2_with fail
  refine UP.out.mono ?_
  rintro e w2 ⟨⟨u,rfl,hu⟩,d2⟩
  have O2:=hid (HOF.out.below d2 HOF.out.lt)
  have D2:=hid (chain D1.out d2 (Nat.le_refl _))
  have HU:=hid hu
  clear hu d2 UP
  cases u with
  | false=>
   obtain ⟨cv,rt⟩:=FIN.out w2 es false false O2.out ESL.out HU.out DK.out (by rw [EST.out];simp)
   have RT:=hid rt
   clear rt FIN
   go_wp2_with fail
   go_ret3
   exact ⟨RT.out,D2.out⟩
  | true=>
   have RA:=hid (raise_any w'.heap.size k cap es w2 O2.out ESL.out (by omega) DK.out)
   have HG:Hid (w'.heap.size≤w2.heap.size):=D2.out.size
   go_wp2_with fail
   refine RA.out.mono ?_
   rintro e w3 ⟨c,fs,rfl,o3,l3,r3,n3⟩
   have D3:Hid (Below w'.heap.size w' w3):=D2.out.trans (n3.below (Nat.le_refl _) HG.out)
   rw [EST.out] at r3
   have hx:(es.take k).length=(xs.take k).length:=by rw [EST.out]
   have hl1:(xs.take k).length=k:=by rw [←hx];have:=ESL.out;simp;omega
   obtain ⟨cv,rt⟩:=FIN.out w3 fs c true o3 (by have:=ESL.out;omega) HU.out r3.1 (by have:=r3.2.2;rw [hl1] at this;simpa using this)
   have RT:=hid rt
   clear rt FIN o3 l3 r3 n3 RA hx hl1
   go_wp2_with fail
   go_ret3
   exact ⟨RT.out,D3.out⟩
end Go.Proofs.YtbdhlfklcdegdaaGreatDoor

namespace Go.Proofs.YtbdhlfklcdegdaaGreatDoor
open Go.RowKit Go.Deep
namespace Fx
def up (xs:List Int) (k:Nat):Bool:=decide (10^(xs.length - k)<2*dv (xs.drop k)∨(2*dv (xs.drop k)=10^(xs.length - k)∧dv (xs.take k)%2=1))
def rn (xs:List Int) (k:Nat):Int:=dv (xs.take k)+if up xs k=true then 1 else 0
def rd (xs:List Int) (k:Nat):List Int:=tx (if rn xs k=10^k then k+1 else k) (rn xs k)
def kp (xs:List Int) (c:Int):List Int:=if c<0 then [] else if (xs.length:Int)≤c then xs++List.replicate (c.toNat - xs.length) 48 else rd xs c.toNat
theorem up_is {xs:List Int} {k:Nat} {u:Bool} (h:UpIs (xs.take k) (xs.drop k) false u):u=up xs k:=by
 obtain ⟨h1,h2⟩:=h
 rw [List.length_drop] at h1 h2
 unfold up
 cases u with
 | true=>
  obtain ⟨a,b⟩:=h1 rfl
  symm
  rw [decide_eq_true_iff]
  rcases (show 2*dv (xs.drop k)=10^(xs.length - k)∨10^(xs.length - k)<2*dv (xs.drop k) by omega) with c | c
  ·right
   rcases b c with e | e
   ·cases e
   ·exact ⟨c,e⟩
  ·exact .inl c
 | false=>
  obtain ⟨a,b⟩:=h2 rfl
  symm
  rw [decide_eq_false_iff_not]
  rintro (c | ⟨c,e⟩)
  ·omega
  ·have:=(b c).2
   omega
theorem rn_bd {xs:List Int} (hd:Digs xs) {k:Nat} (hk:k≤xs.length):0≤rn xs k∧rn xs k≤10^k:=by
 have b:=dv_bd (ds:=xs.take k) (fun d h=>hd d (List.mem_of_mem_take h))
 rw [List.length_take,Nat.min_eq_left hk] at b
 unfold rn
 split <;> omega
theorem rd_len (xs:List Int) (k:Nat):(rd xs k).length=if rn xs k=10^k then k+1 else k:=tx_len _ _
theorem rd_digs (xs:List Int) (k:Nat):Digs (rd xs k):=tx_digs _ _
theorem rd_dv {xs:List Int} (hd:Digs xs) {k:Nat} (hk:k≤xs.length):dv (rd xs k)=rn xs k:=by
 have b:=rn_bd hd hk
 apply tx_dv b.1
 split
 ·rw [Int.pow_succ];have:=p_pos k;omega
 ·omega
theorem rd_of {xs ds:List Int} {k:Nat} (h:Digs ds) (hv:dv ds=rn xs k) (hl:ds.length=if rn xs k=10^k then k+1 else k):ds=rd xs k:=by
 have:=eq_tx h
 rw [hv,hl] at this
 exact this
theorem rd_round {xs ds:List Int} {k:Nat} {c:Bool} (hx:Digs xs) (hk:k≤xs.length) (h:Rounded xs ds k false c):(if c=true then 49::ds else ds)=rd xs k:=by
 obtain ⟨h1,h2,u,h3,h4⟩:=h
 have e:=up_is h3
 subst e
 have v:dv ds+(if c=true then 10^k else 0)=rn xs k:=h4
 have b:=dv_bd h1
 have hb:=rn_bd hx hk
 rw [h2] at b
 cases c with
 | true=>
  rw [if_pos rfl] at v ⊢
  refine rd_of (fun d hd=>?_) ?_ ?_
  ·rcases List.mem_cons.1 hd with rfl | hd
   ·omega
   ·exact h1 d hd
  ·rw [dv_cons,h2];omega
  ·rw [if_pos (by omega),List.length_cons,h2]
 | false=>
  rw [if_neg Bool.false_ne_true] at v ⊢
  exact rd_of h1 (by omega) (by rw [if_neg (by omega),h2])
theorem kp_neg {xs:List Int} {c:Int} (h:c<0):kp xs c=[]:=by rw [kp,if_pos h]
theorem kp_full {xs:List Int} {c:Nat} (h:xs.length≤c):kp xs (c:Int)=xs++List.replicate (c - xs.length) 48:=by rw [kp,if_neg (by omega),if_pos (by omega),Int.toNat_natCast]
theorem kp_cut {xs:List Int} {c:Nat} (h:c<xs.length):kp xs (c:Int)=rd xs c:=by rw [kp,if_neg (by omega),if_neg (by omega),Int.toNat_natCast]
end Fx
end Go.Proofs.YtbdhlfklcdegdaaGreatDoor
